/- Plain mathematics of escapes: no program is named here. -/
import Derived.Test.YteimbjamnfkapaaGreatDoorLVBase
import Derived.Lib.Strings
import Derived.Lib.Bytealg
import Derived.Test.YteimbjamnfkapaaGreatDoorLUtfAll
import Derived.Test.YteimbjamnfkapaaGreatDoorLRefOne
import Derived.Deep.DeepCutAuto
import Derived.Deep.LoopGhost
import Derived.Test.YteimbjamnfkapaaGreatDoorLShelf
import Derived.Lib.AppendStr
import Derived.Shelf.Strings.SlTrimAscii
import Derived.Deep.QuietTactic
import Derived.BigQuiet
import Derived.Lib.Replace
import Derived.Lib.SplitLaws
import Derived.Lib.IndexBytes
import Derived.Lib.OthersKept
import Derived.WalkMore
import Derived.Test.YteimbjamnfkapaaGreatDoorLMathDecAll
import Derived.Test.YteimbjamnfkapaaGreatDoorLOrders
/- esc.quoteByte: walked. -/
/- esc.quote, Quote, TQuote: walked. -/
/- What chapter 10 passes over, and digits with strokes between them: plain mathematics. -/
/- Cutting texts at a byte; days, times and stamps of chapter 10: plain mathematics. -/
/- tlex.among, clamp, rowEnd, lineBytes: walked. -/
/- tlex.hasShape, count, daysOf: walked. -/
namespace Go.Proofs.YteimbjamnfkapaaGreatDoor
open Go.RowKit
def bt (l : List UInt8) (k : Nat) : Nat := match l[k]? with
 | some b => b.toNat
 | none => 256
theorem bt_some {l : List UInt8} {k : Nat} {b : UInt8} (h : l[k]? = some b) : bt l k = b.toNat := by unfold bt; rw [h]
theorem bt_at (s : ByteArray) (k : Nat) (h : k < s.size) : bt s.data.toList k = s[k].toNat := by
 have h' : k < s.data.toList.length := by simpa using h
 rw [bt_some (List.getElem?_eq_getElem h')]; rfl
theorem bt_cons (b : UInt8) (l : List UInt8) : bt (b :: l) 0 = b.toNat := rfl
theorem bt_succ (b : UInt8) (l : List UInt8) (k : Nat) : bt (b :: l) (k + 1) = bt l k := by unfold bt; rfl
theorem bt_nil (k : Nat) : bt [] k = 256 := by unfold bt; rfl
def hxI (b : UInt8) : Bool := decide (48 ≤ b.toNat ∧ b.toNat ≤ 57) || decide (97 ≤ b.toNat ∧ b.toNat ≤ 102) || decide (65 ≤ b.toNat ∧ b.toNat ≤ 70)
def hxV (b : UInt8) : Nat := if b.toNat ≤ 57 then b.toNat - 48 else if b.toNat ≤ 70 then b.toNat - 55 else b.toNat - 87
def hexF (l : List UInt8) : Nat := l.foldl (fun v b => 16 * v + hxV b) 0
def hexB (l : List UInt8) : Bool := decide (1 ≤ l.length ∧ l.length ≤ 8) && l.all hxI
def hexR (l : List UInt8) : Nat := if hexB l = true then hexF l else 0
def cdI (l : List UInt8) (k n : Nat) : Int := if k + n ≤ l.length ∧ hexB ((l.drop k).take n) = true then (hexF ((l.drop k).take n) : Int) else -1
def ltr (r : Int) : List UInt8 := (strOfNums (enc r)).data.toList
def nmV (toml : Bool) (b : Nat) : Nat :=
 if b = 34 then 34 else if b = 92 then 92 else if b = 98 then 8 else if b = 102 then 12 else if b = 110 then 10 else if b = 114 then 13 else if b = 116 then 9
 else if b = 47 ∧ toml = false then 47 else if b = 101 ∧ toml = true then 27 else 256
def escU (toml : Bool) (l : List UInt8) (n : Nat) : List UInt8 × Nat :=
 if 0 ≤ cdI l 2 n ∧ goodB (cdI l 2 n) = true then (ltr (cdI l 2 n),2 + n)
 else if toml = false ∧ 55296 ≤ cdI l 2 n ∧ cdI l 2 n < 56320 ∧ bt l 6 = 92 ∧ bt l 7 = 117 ∧ 56320 ≤ cdI l 8 4 ∧ cdI l 8 4 < 57344 then (ltr (65536 + (cdI l 2 n - 55296) * 1024 + cdI l 8 4 - 56320),12)
 else ([],0)
def escP (toml : Bool) (l : List UInt8) : List UInt8 × Nat :=
 if nmV toml (bt l 1) < 256 then ([UInt8.ofNat (nmV toml (bt l 1))],2)
 else if bt l 1 = 85 ∧ toml = true then escU toml l 8
 else if bt l 1 = 117 then escU toml l 4
 else ([],0)
def lnE (l : List UInt8) : Nat := if bt l 0 = 10 then 1 else if bt l 0 = 13 ∧ bt l 1 = 10 then 2 else 0
def plP (l : List UInt8) : List UInt8 × Nat := (l.take (tkN l),tkN l)
def jsP (l : List UInt8) : List UInt8 × Nat := if bt l 0 = 92 then escP false l else if bt l 0 < 32 then ([],0) else plP l
def opP (l : List UInt8) : List UInt8 × Nat := if bt l 0 < 32 ∧ bt l 0 ≠ 9 ∨ bt l 0 = 127 then ([],0) else plP l
def mpP (l : List UInt8) : List UInt8 × Nat := if 0 < lnE l then (l.take (lnE l),lnE l) else opP l
def oeP (l : List UInt8) : List UInt8 × Nat := if bt l 0 = 92 then escP true l else opP l
def bkB (b : UInt8) : Bool := decide (b.toNat = 32 ∨ b.toNat = 9)
def blB (b : UInt8) : Bool := decide (b.toNat = 32 ∨ b.toNat = 9 ∨ b.toNat = 10 ∨ b.toNat = 13)
def run (p : UInt8 → Bool) (l : List UInt8) : Nat := (l.takeWhile p).length
def fdN (l : List UInt8) : Nat := if lnE ((l.drop 1).drop (run bkB (l.drop 1))) = 0 then 0 else 1 + run bkB (l.drop 1) + run blB ((l.drop 1).drop (run bkB (l.drop 1)))
def meP (l : List UInt8) : List UInt8 × Nat := if bt l 0 = 92 then (if 0 < fdN l then ([],fdN l) else escP true l) else mpP l
def oE (q : Nat) (l : List UInt8) : List UInt8 × Nat := if bt l 0 = q then ([],1) else ([],0)
def qN (q : Nat) (l : List UInt8) : Nat := run (fun b => decide (b.toNat = q)) (l.take 5)
def mE (q : Nat) (l : List UInt8) : List UInt8 × Nat := if qN q l < 3 then ([],0) else (l.take (qN q l - 3),qN q l)
def rd (E P : List UInt8 → List UInt8 × Nat) (t : List UInt8) : Nat → Nat → List UInt8 → List UInt8 × Nat × Int
 | 0,i,_ => ([],0,(i : Int))
 | f + 1,i,acc =>
  if t.length ≤ i then ([],0,(t.length : Int))
  else if 0 < (E (t.drop i)).2 then (acc ++ (E (t.drop i)).1,i + (E (t.drop i)).2,-1)
  else if (P (t.drop i)).2 = 0 then ([],0,(i : Int))
  else rd E P t f (i + (P (t.drop i)).2) (acc ++ (P (t.drop i)).1)
def rdA (E P : List UInt8 → List UInt8 × Nat) (t : List UInt8) (i : Nat) : List UInt8 × Nat × Int := rd E P t (t.length + 1) i []
def plc (t : List UInt8) (a : Int) : Int := if a < 0 then 0 else if (t.length : Int) < a then t.length else a
def unqJ (t : List UInt8) (a : Int) : List UInt8 × Nat × Int :=
 if 0 ≤ a ∧ bt t a.toNat = 34 then rdA (oE 34) jsP t (a.toNat + 1) else ([],0,plc t a)
def m3 (q : Nat) (l : List UInt8) : Bool := decide (bt l 0 = q) && decide (bt l 1 = q) && decide (bt l 2 = q)
def unqT (t : List UInt8) (a : Int) : List UInt8 × Nat × Int :=
 if 0 ≤ a ∧ m3 34 (t.drop a.toNat) = true then rdA (mE 34) meP t (a.toNat + 3 + lnE (t.drop (a.toNat + 3)))
 else if 0 ≤ a ∧ m3 39 (t.drop a.toNat) = true then rdA (mE 39) mpP t (a.toNat + 3 + lnE (t.drop (a.toNat + 3)))
 else if 0 ≤ a ∧ bt t a.toNat = 34 then rdA (oE 34) oeP t (a.toNat + 1)
 else if 0 ≤ a ∧ bt t a.toNat = 39 then rdA (oE 39) opP t (a.toNat + 1)
 else ([],0,plc t a)
def hxD (n : Nat) : UInt8 := if n < 10 then UInt8.ofNat (48 + n) else UInt8.ofNat (87 + n)
def qbB (b : Nat) : List UInt8 :=
 if b = 34 ∨ b = 92 then [92,UInt8.ofNat b] else if b = 8 then [92,98] else if b = 9 then [92,116] else if b = 10 then [92,110] else if b = 12 then [92,102] else if b = 13 then [92,114]
 else if b < 32 ∨ b = 127 then [92,117,48,48,hxD (b / 16),hxD (b % 16)] else [UInt8.ofNat b]
def qst (toml : Bool) (l : List UInt8) : List UInt8 :=
 if tkN l = 0 then [239,191,189] else if 1 < tkN l ∨ bt l 0 = 127 ∧ toml = false then l.take (tkN l) else qbB (bt l 0)
def qtK (toml : Bool) (t : List UInt8) (k : Nat) : List UInt8 := 34 :: (List.range k).flatMap fun j => qst toml (t.drop (pos t j))
def qtA (toml : Bool) (t : List UInt8) : List UInt8 := qtK toml t (cnt t) ++ [34]
def brI (b : UInt8) : Bool := decide (97 ≤ b.toNat ∧ b.toNat ≤ 122) || decide (65 ≤ b.toNat ∧ b.toNat ≤ 90) || decide (48 ≤ b.toNat ∧ b.toNat ≤ 57) || decide (b.toNat = 95) || decide (b.toNat = 45)
def brB (l : List UInt8) : Bool := !l.isEmpty && l.all brI
end Go.Proofs.YteimbjamnfkapaaGreatDoor
namespace Go.Proofs.YteimbjamnfkapaaGreatDoor
open Go.RowKit
end Go.Proofs.YteimbjamnfkapaaGreatDoor
/- esc.hexDigit, Hex, bareByte, Bare: walked. -/
/- esc.Hex, Bare, letter, plain, digits, named: walked. -/
/- esc.letter, plain, digits, named, jsonUnits, jsonPiece: walked. -/
/- esc.jsonUnits, jsonPiece: walked. -/
/- esc.jsonPiece, lineEnd, onePlain, manyPlain, tomlEscape, oneEscaped, folded, manyEscaped: walked. -/
/- esc.tomlEscape, oneEscaped, folded, manyEscaped: walked. -/
/- esc.oneEnd, manyEnd, from, read: walked. -/
/- esc.read: walked. -/
/- esc.from, Unquote, TUnquote: walked. -/
namespace Go.Proofs.YteimbjamnfkapaaGreatDoor
open Go.RowKit
theorem eonto {w w1 w2 : World} (h : Below w.heap.size w w1) (g : Below w1.heap.size w1 w2) : Below w.heap.size w w2 := h.trans (g.mono h.size)
theorem ebrow_at (s : ByteArray) (k : Nat) (w : World) (c : Nat) (t : TypeId) (m : Nat × Nat) (hk : k < s.size) : (w.alloc (.cells (bytesRow s c) t m)).cell? ⟨w.heap.size,k,none⟩ = some (.int .u8 (s[k].toNat : Int)) := by
 rw [World.cell?_alloc_mark w _ t m k]
 exact bytesRow_at s c k hk
def hxW (b : UInt8) : Nat := if hxI b = true then hxV b else 0
end Go.Proofs.YteimbjamnfkapaaGreatDoor
namespace Go.Proofs.YteimbjamnfkapaaGreatDoor
open Go.RowKit
theorem take_snoc (s : ByteArray) (k : Nat) (h : k < s.size) : s.data.toList.take (k + 1) = s.data.toList.take k ++ [s[k]] := by
 rw [List.take_succ_eq_append_getElem (by simpa using h)]; rfl
theorem drop_ext (s : ByteArray) (a b : Nat) : (s.extract a b).data.toList = (s.data.toList.drop a).take (b - a) := by
 rw [ByteArray.data_extract,Array.toList_extract]
def dgOk (l : List UInt8) (c k : Nat) : Prop := bt l 0 = 92 ∧ bt l 1 = c ∧ 0 ≤ cdI l 2 k
def DigPost (l : List UInt8) (c k : Nat) (e : Ending) : Prop :=
 (dgOk l c k ∧ e = .returned (.tuple #[.int .i64 (cdI l 2 k),.int .i64 ((2 + k : Nat) : Int)])) ∨ (¬ dgOk l c k ∧ e = .returned (.tuple #[.int .i64 0,.int .i64 0]))
def nmPe (toml : Bool) (l : List UInt8) : List UInt8 × Nat := if nmV toml (bt l 1) < 256 then ([UInt8.ofNat (nmV toml (bt l 1))],2) else ([],0)
def nmIs (toml : Bool) (names said : ByteArray) : Prop := said.size = names.size ∧ names.size ≤ 8 ∧
 ∀ b : UInt8,(Lib.indexByte names.data.toList b = -1 ∧ nmV toml b.toNat = 256) ∨ (∃ i : Nat,Lib.indexByte names.data.toList b = i ∧ i < names.size ∧ nmV toml b.toNat < 256 ∧ said.extract i (i + 1) = mkS [UInt8.ofNat (nmV toml b.toNat)])
def nmT (toml : Bool) (names said : List UInt8) (n : Nat) : Bool :=
 (decide (Lib.indexByte names (UInt8.ofNat n) = -1) && decide (nmV toml n = 256)) ||
 (decide (0 ≤ Lib.indexByte names (UInt8.ofNat n)) && decide (Lib.indexByte names (UInt8.ofNat n) < 8) && decide (nmV toml n < 256) && decide (said[(Lib.indexByte names (UInt8.ofNat n)).toNat]? = some (UInt8.ofNat (nmV toml n))))
theorem hp1 (l : List UInt8) (c : UInt8) : Lib.hasPrefix l [c] = decide (bt l 0 = c.toNat) := by
 have hc := c.toNat_lt
 unfold Lib.hasPrefix
 cases l with
 | nil => rw [bt_nil,decide_eq_false (by omega)]; rfl
 | cons a t =>
  rw [bt_cons,Bool.eq_iff_iff]; simp [List.isPrefixOf]
  rw [eq_comm,UInt8.toNat_inj]
theorem hp2 (l : List UInt8) (c d : UInt8) : Lib.hasPrefix l [c,d] = decide (bt l 0 = c.toNat ∧ bt l 1 = d.toNat) := by
 have hc := c.toNat_lt
 have h1 := hp1 (l.drop 1) d
 unfold Lib.hasPrefix at h1 ⊢
 cases l with
 | nil => rw [bt_nil,decide_eq_false (by omega)]; rfl
 | cons a t =>
  rw [List.drop_succ_cons,List.drop_zero] at h1
  rw [bt_cons,bt_succ,List.isPrefixOf,h1,Bool.eq_iff_iff]; simp
  intro _
  rw [eq_comm,UInt8.toNat_inj]
def PieceOf (f : FuncId) (P : List UInt8 → List UInt8 × Nat) : Prop := ∀ (s : ByteArray) (w : World),s.size ≤ maxLen → 0 < s.size →
 Calls Tryz.prog f #[.string s] w fun e w' => e = .returned (.tuple #[.string (mkS (P s.data.toList).1),.int .i64 ((P s.data.toList).2 : Nat)]) ∧ Below w.heap.size w w'
theorem dropW (p : UInt8 → Bool) (l : List UInt8) : l.dropWhile p = l.drop (run p l) := by
 unfold run
 induction l with
 | nil => rfl
 | cons a t ih =>
  rw [List.dropWhile_cons,List.takeWhile_cons]
  by_cases h : p a = true
  ·rw [if_pos h,if_pos h,ih]; rfl
  ·rw [if_neg h,if_neg h]; rfl
theorem run_leE (p : UInt8 → Bool) (l : List UInt8) : run p l ≤ l.length := by
 unfold run
 exact (List.takeWhile_prefix p).length_le
def EndOf (w : World) (f : FuncId) (b : Nat) (E : List UInt8 → List UInt8 × Nat) : Prop := ∀ (s : ByteArray) (X : World),Below w.heap.size w X → s.size ≤ maxLen → 0 < s.size →
 Calls Tryz.prog f #[.string s,.pointer (some ⟨b,0,none⟩)] X fun e w' => e = .returned (.tuple #[.string (mkS (E s.data.toList).1),.int .i64 ((E s.data.toList).2 : Nat)]) ∧ Below X.heap.size X w'
def Fits (P : List UInt8 → List UInt8 × Nat) : Prop := ∀ l,(P l).2 ≤ l.length ∧ (P l).1.length ≤ (P l).2
def hexS : ByteArray := ⟨#[48,49,50,51,52,53,54,55,56,57,97,98,99,100,101,102]⟩
end Go.Proofs.YteimbjamnfkapaaGreatDoor
namespace Go.Proofs.YteimbjamnfkapaaGreatDoor
def skM : Bool → List UInt8 → Nat
 | _,[] => 0
 | false,b :: l => if bkB b = true ∨ b.toNat = 10 ∨ (b.toNat = 13 ∧ bt l 0 = 10) then 1 + skM false l else if b.toNat = 35 then 1 + skM true l else 0
 | true,b :: l => if b.toNat = 10 then 1 + skM false l else 1 + skM true l
def skT (lines : Bool) (l : List UInt8) : Nat := if lines = true then skM false l else run bkB l
def noL (b : UInt8) : Bool := !decide (b.toNat = 10)
def lnB (l : List UInt8) : Nat := if bt l 0 = 10 then 1 else if bt l 0 = 13 ∧ bt l 1 = 10 then 2 else if bt l 0 = 35 then run noL l else 0
def hdB (p : UInt8 → Bool) : List UInt8 → Bool
 | [] => false
 | c :: _ => p c
def cdN (p : UInt8 → Bool) : Bool → List UInt8 → Nat
 | _,[] => 0
 | q,b :: l => if (p b || (q && decide (b.toNat = 95) && hdB p l)) = true then 1 + cdN p true l else 0
theorem cdN_le (p : UInt8 → Bool) : ∀ (q : Bool) (l : List UInt8),cdN p q l ≤ l.length
 | _,[] => Nat.le_refl _
 | q,b :: l => by have h := cdN_le p true l; rw [cdN]; simp only [List.length_cons]; split <;> omega
def noS (b : UInt8) : Bool := !decide (b.toNat = 95)
def clnS (l : List UInt8) : List UInt8 := l.filter noS
def dgB (base : Nat) (b : UInt8) : Bool := hxI b && decide (hxV b < base)
def neB (c b : UInt8) : Bool := !decide (b.toNat = c.toNat)
theorem neB_self (c : UInt8) : neB c c = false := by simp [neB]
theorem neB_eq {c b : UInt8} (h : neB c b = false) : b = c := by
 unfold neB at h
 exact UInt8.toNat_inj.1 (by simpa using h)
theorem neB_ne {c b : UInt8} (h : b ≠ c) : neB c b = true := by
 unfold neB
 simp [UInt8.toNat_inj,h]
theorem run_cpos {p : UInt8 → Bool} {b : UInt8} {l : List UInt8} (h : p b = true) : run p (b :: l) = run p l + 1 := by unfold run; rw [List.takeWhile_cons_of_pos h]; rfl
theorem run_cneg {p : UInt8 → Bool} {b : UInt8} {l : List UInt8} (h : p b = false) : run p (b :: l) = 0 := by unfold run; rw [List.takeWhile_cons_of_neg (by rw [h]; decide)]; rfl
theorem ixB_run (c : UInt8) : ∀ l : List UInt8,Lib.indexByte l c = if run (neB c) l < l.length then (run (neB c) l : Int) else -1
 | [] => rfl
 | b :: l => by
  have ih := ixB_run c l
  unfold Lib.indexByte
  by_cases h : b = c
  ·subst h
   rw [run_cneg (neB_self b),if_pos (by simp)]; simp
  ·have h2 : ¬ (b == c) = true := by simpa using h
   rw [run_cpos (neB_ne h)]
   simp only [List.length_cons]
   rw [if_neg h2,ih]
   by_cases k : run (neB c) l < l.length
   ·rw [if_pos k,if_neg (by intro e; have := beq_iff_eq.1 e; omega),if_pos (by omega)]; omega
   ·rw [if_neg k,if_pos (by decide),if_neg (by omega)]
def spl (c : UInt8) : List UInt8 → List (List UInt8)
 | [] => [[]]
 | b :: l => if neB c b = true then (match spl c l with
  | [] => [[b]]
  | h :: t => (b :: h) :: t) else [] :: spl c l
theorem spl_ne (c : UInt8) : ∀ l : List UInt8,∃ h t,spl c l = h :: t
 | [] => ⟨[],[],rfl⟩
 | b :: l => by
  obtain ⟨h,t,e⟩ := spl_ne c l
  rw [spl,e]
  by_cases k : neB c b = true
  ·rw [if_pos k]; exact ⟨_,_,rfl⟩
  ·rw [if_neg k]; exact ⟨_,_,rfl⟩
theorem spl_run (c : UInt8) : ∀ l : List UInt8,spl c l = if run (neB c) l < l.length then l.take (run (neB c) l) :: spl c (l.drop (run (neB c) l + 1)) else [l]
 | [] => rfl
 | b :: l => by
  have ih := spl_run c l
  by_cases k : neB c b = true
  ·rw [spl,if_pos k,run_cpos k]
   simp only [List.length_cons]
   by_cases h : run (neB c) l < l.length
   ·rw [if_pos h] at ih
    rw [if_pos (by omega),ih]; rfl
   ·rw [if_neg h] at ih
    rw [if_neg (by omega),ih]
  ·have k2 : neB c b = false := by simpa using k
   rw [spl,if_neg k,run_cneg k2,if_pos (by simp)]; rfl
theorem count_run (c : UInt8) : ∀ l : List UInt8,l.count c = if run (neB c) l < l.length then 1 + (l.drop (run (neB c) l + 1)).count c else 0
 | [] => rfl
 | b :: l => by
  have ih := count_run c l
  by_cases k : neB c b = true
  ·have hbc : b ≠ c := by intro e; subst e; rw [neB_self] at k; cases k
   rw [List.count_cons_of_ne (fun e => hbc e),run_cpos k]
   simp only [List.length_cons]
   by_cases h : run (neB c) l < l.length
   ·rw [if_pos h] at ih
    rw [if_pos (by omega),ih]; rfl
   ·rw [if_neg h] at ih
    rw [if_neg (by omega),ih]
  ·have k2 : neB c b = false := by simpa using k
   have e := neB_eq k2
   subst e
   rw [run_cneg k2,if_pos (by simp),List.count_cons_self]; simp; omega
theorem splitK_spl (c : UInt8) : ∀ (k : Nat) (l : List UInt8),l.count c = k → Lib.splitK [c] 0 k l = spl c l
 | 0,l,h => by
  rw [count_run] at h
  rw [spl_run]
  by_cases hr : run (neB c) l < l.length
  ·rw [if_pos hr] at h; omega
  ·rw [if_neg hr]; rfl
 | k + 1,l,h => by
  rw [count_run] at h
  by_cases hr : run (neB c) l < l.length
  ·rw [if_pos hr] at h
   have e : Lib.index l [c] = (run (neB c) l : Int) := by rw [Lib.index_one,ixB_run,if_pos hr]
   rw [Lib.splitK,e,if_neg (by intro e2; have := beq_iff_eq.1 e2; omega),spl_run,if_pos hr]
   have ih := splitK_spl c k (l.drop (run (neB c) l + 1)) (by omega)
   rw [← ih]; simp
  ·rw [if_neg hr] at h; omega
theorem split_spl (c : UInt8) (s : ByteArray) (sep : ByteArray) (hs : sep.data.toList = [c]) : (Lib.splitB sep 0 (Lib.countB s sep) s).map (·.data.toList) = spl c s.data.toList := by
 rw [Lib.splitB_data,hs]
 have e : Lib.countB s sep = s.data.toList.count c := by
  have : Lib.countB s sep = Lib.count s.data.toList sep.data.toList := rfl
  rw [this,hs,Lib.count_one]
 rw [e]; exact splitK_spl c _ _ rfl
theorem filter_run (c : UInt8) : ∀ l : List UInt8,l.filter (neB c) = if run (neB c) l < l.length then l.take (run (neB c) l) ++ (l.drop (run (neB c) l + 1)).filter (neB c) else l
 | [] => rfl
 | b :: l => by
  have ih := filter_run c l
  by_cases k : neB c b = true
  ·rw [List.filter_cons_of_pos k,run_cpos k]
   simp only [List.length_cons]
   by_cases h : run (neB c) l < l.length
   ·rw [if_pos h] at ih
    rw [if_pos (by omega),ih]; rfl
   ·rw [if_neg h] at ih
    rw [if_neg (by omega),ih]
  ·have k2 : neB c b = false := by simpa using k
   rw [List.filter_cons_of_neg k,run_cneg k2,if_pos (by simp)]; rfl
theorem replaceK_filter (c : UInt8) : ∀ (k : Nat) (l : List UInt8),l.count c = k → Lib.replaceK [c] [] k l = l.filter (neB c)
 | 0,l,h => by
  rw [count_run] at h
  rw [filter_run]
  by_cases hr : run (neB c) l < l.length
  ·rw [if_pos hr] at h; omega
  ·rw [if_neg hr]; rfl
 | k + 1,l,h => by
  rw [count_run] at h
  by_cases hr : run (neB c) l < l.length
  ·rw [if_pos hr] at h
   have e : Lib.index l [c] = (run (neB c) l : Int) := by rw [Lib.index_one,ixB_run,if_pos hr]
   rw [Lib.replaceK_hit _ _ _ _ _ e,filter_run,if_pos hr]
   have ih := replaceK_filter c k (l.drop (run (neB c) l + 1)) (by omega)
   rw [← ih]; simp
  ·rw [if_neg hr] at h; omega
theorem replaceAll_cln (l : List UInt8) : Lib.replaceAll l [95] [] = clnS l := by
 unfold Lib.replaceAll Lib.replace
 rw [if_neg (by decide)]
 unfold Lib.replaceNum
 rw [if_pos (Or.inl (by decide)),Lib.count_one,replaceK_filter 95 _ l rfl]; rfl
theorem cut_run (c : UInt8) (l : List UInt8) : Lib.cut l [c] = (l.take (run (neB c) l),l.drop (run (neB c) l + 1),decide (run (neB c) l < l.length)) := by
 unfold Lib.cut
 rw [Lib.index_one,ixB_run]
 by_cases h : run (neB c) l < l.length
 ·rw [if_pos h,if_pos (by omega),decide_eq_true h]; simp
 ·have hle : run (neB c) l ≤ l.length := by unfold run; exact (List.takeWhile_sublist _).length_le
  rw [if_neg h,if_neg (by decide),decide_eq_false h,List.take_of_length_le (by omega),List.drop_eq_nil_of_le (by omega)]
def dgA (l : List UInt8) (k : Nat) : Bool := decide (48 ≤ bt l k ∧ bt l k ≤ 57)
def is2 (l : List UInt8) (k : Nat) : Bool := dgA l k && dgA l (k + 1)
def dg2 (l : List UInt8) (k : Nat) : Nat := (bt l k - 48) * 10 + (bt l (k + 1) - 48)
def dim (y m : Nat) : Nat := if m = 4 ∨ m = 6 ∨ m = 9 ∨ m = 11 then 30 else if m = 2 then (if (y % 4 = 0 ∧ y % 100 ≠ 0) ∨ y % 400 = 0 then 29 else 28) else 31
def dayS (l : List UInt8) : Bool := decide (l.length = 10) && is2 l 0 && is2 l 2 && decide (bt l 4 = 45) && is2 l 5 && decide (bt l 7 = 45) && is2 l 8
def dayB (l : List UInt8) : Bool := dayS l && decide (1 ≤ dg2 l 5 ∧ dg2 l 5 ≤ 12 ∧ 1 ≤ dg2 l 8 ∧ dg2 l 8 ≤ dim (dg2 l 0 * 100 + dg2 l 2) (dg2 l 5))
def twoB (l : List UInt8) (n : Nat) : Bool := decide (l.length = 2) && is2 l 0 && decide (dg2 l 0 < n)
def ckS : List (List UInt8) → List Nat → Bool
 | [],[] => true
 | p :: ps,n :: ns => twoB p n && ckS ps ns
 | _,_ => false
def ckH (l : List UInt8) : List UInt8 := l.take (run (neB 46) l)
def ckF (l : List UInt8) : List UInt8 := l.drop (run (neB 46) l + 1)
def ckD (l : List UInt8) : Bool := decide (run (neB 46) l < l.length)
def dgI (b : UInt8) : Bool := decide (48 ≤ b.toNat ∧ b.toNat ≤ 57)
def frB (l : List UInt8) : Bool := decide (l ≠ []) && decide (l.length ≤ 9) && decide (run dgI l = l.length)
def tmB (l : List UInt8) : Bool := ckS (spl 58 (ckH l)) [24,60,61] && (!ckD l || frB (ckF l))
def znB (l : List UInt8) : Bool := decide (bt l (l.length - 1) = 90 ∨ bt l (l.length - 1) = 122)
def zoB (l : List UInt8) : Bool := decide (6 ≤ l.length) && decide (bt l (l.length - 6) = 43 ∨ bt l (l.length - 6) = 45) && ckS (spl 58 (l.drop (l.length - 6 + 1))) [24,60]
def znT (l : List UInt8) : List UInt8 := if l ≠ [] ∧ znB l = true then l.take (l.length - 1) else if zoB l = true then l.take (l.length - 6) else l
def stB (l : List UInt8) : Bool := dayB l || tmB l || (decide (10 < l.length) && dayB (l.take 10) && decide (bt l 10 = 84 ∨ bt l 10 = 116 ∨ bt l 10 = 32) && tmB (znT (l.drop 11)))
end Go.Proofs.YteimbjamnfkapaaGreatDoor
namespace Go.Proofs.YteimbjamnfkapaaGreatDoor
open Go.RowKit
def inT (l : List UInt8) (b : UInt8) : Bool := l.any (fun x => decide (x.toNat = b.toNat))
theorem tix_ge (l : List UInt8) (b : UInt8) : -1 ≤ Lib.indexByte l b := by
 rw [ixB_run]; split <;> omega
theorem tix_in (l : List UInt8) (b : UInt8) : decide (0 ≤ Lib.indexByte l b) = inT l b := by
 induction l with
 | nil => rfl
 | cons a l ih =>
  unfold Lib.indexByte inT
  rw [List.any_cons]
  by_cases h : a = b
  ·subst h; simp
  ·have h2 : ¬ a.toNat = b.toNat := fun e => h (UInt8.toNat_inj.1 e)
   have h3 : (a == b) = false := by simpa using h
   rw [h3,decide_eq_false h2,Bool.false_or]
   have e : (l.any fun x => decide (x.toNat = b.toNat)) = inT l b := rfl
   rw [e,← ih]
   simp only [Bool.false_eq_true,if_false]
   by_cases h4 : Lib.indexByte l b = -1
   ·rw [h4]; rfl
   ·have h5 : (Lib.indexByte l b == -1) = false := by simpa using h4
    rw [h5]
    simp only [Bool.false_eq_true,if_false]
    have h6 : -1 ≤ Lib.indexByte l b := tix_ge l b
    exact decide_eq_decide.2 (by omega)
theorem tix_any (s : ByteArray) (b : UInt8) (w : World) : Calls Tryz.prog 273 #[.string s,.int .u8 (b.toNat : Int)] w fun e w' => e = .returned (.int .i64 (Lib.indexByte s.data.toList b)) ∧ w' = w := by
 have := Tryz.strings_IndexByte s (b.toNat : Int) w
 have e : ((b.toNat : Int).toNat).toUInt8 = b := by simp
 rw [e] at this; exact this
set_option maxRecDepth 100000 in
theorem tamong_any (s : ByteArray) (b : UInt8) (w : World) :
  Calls Tryz.prog 229 #[.string s,.int .u8 (b.toNat : Int)] w fun e w' => e = .returned (.bool (inT s.data.toList b)) ∧ w' = w := by
 have HI := hid (fun X => tix_any s b X)
 rw [← tix_in]
 obtain ⟨R,hR⟩ : ∃ R,Lib.indexByte s.data.toList b = R := ⟨_,rfl⟩
 rw [hR] at HI ⊢
 clear hR
 obtain ⟨n,hn⟩ : ∃ n,b.toNat = n := ⟨_,rfl⟩
 rw [hn] at HI ⊢
 clear hn
 go_enter Tryz.func229,Tryz.ntmps229
 go_wp2_with (go_at_call 273; go_must (refine (HI.out _).mono ?_; rintro e w1 ⟨rfl,rfl⟩))
 go_ret
 exact ⟨rfl,rfl⟩
theorem tamong_of (s : ByteArray) (p : UInt8 → Bool) (hp : ∀ b,inT s.data.toList b = p b) (b : UInt8) (w : World) :
  Calls Tryz.prog 229 #[.string s,.int .u8 (b.toNat : Int)] w fun e w' => e = .returned (.bool (p b)) ∧ w' = w := by
 have := tamong_any s b w
 rw [hp] at this; exact this
theorem Tryz.trimT (s cs : ByteArray) (w : World) (h : cs.size ≤ 100) (ha : ∀ (j : Nat) b,cs.data.toList[j]? = some b → b.toNat < 128) :
  Calls Tryz.prog 287 #[.string s,.string cs] w fun e w' => e = .returned (.string (mkS (Lib.trimLeftS s.data.toList cs.data.toList))) ∧ Below w.heap.size w w' :=
 Any.strings_TrimLeft_laid Tryz.lays161 (by kernel_rfl) s cs w (by omega) ha
set_option maxRecDepth 100000 in
set_option maxHeartbeats 1000000 in
theorem trowEnd_of (t : ByteArray) (a : Nat) (cs : ByteArray) (p : UInt8 → Bool) (hp : (fun b => cs.data.toList.contains b) = p) (hc : cs.size ≤ 100) (ha : ∀ (j : Nat) b,cs.data.toList[j]? = some b → b.toNat < 128) (w : World) (ht : t.size ≤ 1000000) (hat : a ≤ t.size) :
  Calls Tryz.prog 272 #[.string t,.int .i64 (a : Int),.string cs] w fun e w' => e = .returned (.int .i64 (a + run p (t.data.toList.drop a) : Nat)) ∧ Below w.heap.size w w' := by
 obtain ⟨u,hu⟩ : ∃ u,t.extract a t.size = u := ⟨_,rfl⟩
 have hul : u.data.toList = t.data.toList.drop a := by rw [← hu,drop_list]
 obtain ⟨x,hx⟩ : ∃ x,mkS (u.data.toList.drop (run p u.data.toList)) = x := ⟨_,rfl⟩
 have HT : Hid (∀ X,Calls Tryz.prog 287 #[.string u,.string cs] X fun e w' => e = .returned (.string x) ∧ Below X.heap.size X w') := fun X => by
  have := Tryz.trimT u cs X hc ha
  rw [Lib.trimLeftS,hp,dropW,hx] at this; exact this
 have hr := run_leE p u.data.toList
 have hxs : x.size + run p u.data.toList = t.size - a := by
  rw [← size_list,← hx,mkS_list,List.length_drop,hul,List.length_drop,size_list]; rw [hul,List.length_drop,size_list] at hr; omega
 rw [← hul]
 clear hul hx hr
 generalize run p u.data.toList = n at *
 have h1 : x.size ≤ t.size := by omega
 have HX := hid hxs
 clear hxs
 go_enter Tryz.func272,Tryz.ntmps272
 go_wp2_with (go_at_call 287; go_must (refine (HT.out _).mono ?_; rintro e w1 ⟨rfl,hb⟩))
 go_ret
 exact ⟨ret_int (by have := HX.out; omega),hb⟩
theorem ascii_of (cs : ByteArray) (h : cs.data.toList.all (fun b => decide (b.toNat < 128)) = true) : ∀ (j : Nat) b,cs.data.toList[j]? = some b → b.toNat < 128 := fun j b hb => by
 have := List.all_eq_true.1 h b (List.mem_of_getElem? hb)
 simpa using this
def rowC (b : UInt8) : Bool := brI b || decide (b.toNat = 43) || decide (b.toNat = 46) || decide (b.toNat = 58)
theorem byte_all (p : UInt8 → Bool) (h : (List.range 256).all (fun n => p (UInt8.ofNat n)) = true) (b : UInt8) : p b = true := by
 have := List.all_eq_true.1 h b.toNat (List.mem_range.2 b.toNat_lt)
 simpa using this
theorem byte_eq (p q : UInt8 → Bool) (h : (List.range 256).all (fun n => p (UInt8.ofNat n) == q (UInt8.ofNat n)) = true) (b : UInt8) : p b = q b := by
 have := byte_all (fun b => p b == q b) h b
 simpa using this
theorem in_ten (b : UInt8) : inT [48,49,50,51,52,53,54,55,56,57] b = dgI b := byte_eq _ _ (by decide +kernel) b
theorem tamong_ten (b : UInt8) (w : World) :
  Calls Tryz.prog 229 #[.string ⟨#[48,49,50,51,52,53,54,55,56,57]⟩,.int .u8 (b.toNat : Int)] w fun e w' => e = .returned (.bool (dgI b)) ∧ w' = w :=
 tamong_of _ dgI in_ten b w
def shI (b c : UInt8) : Bool := if c.toNat = 48 then dgI b else decide (c.toNat = b.toNat)
def shp : List UInt8 → List UInt8 → Bool
 | [],[] => true
 | b :: l,c :: s => shI b c && shp l s
 | _,_ => false
theorem shp_len : ∀ {l s : List UInt8},l.length ≠ s.length → shp l s = false
 | [],[],h => absurd rfl h
 | [],_ :: _,_ => rfl
 | _ :: _,[],_ => rfl
 | b :: l,c :: s,h => by
  rw [shp,shp_len (l := l) (s := s) (by simpa using h),Bool.and_false]
theorem shp_all : ∀ {l s : List UInt8},l.length = s.length → (∀ (k : Nat) b c,l[k]? = some b → s[k]? = some c → shI b c = true) → shp l s = true
 | [],[],_,_ => rfl
 | [],_ :: _,h,_ => by simp at h
 | _ :: _,[],h,_ => by simp at h
 | b :: l,c :: s,h,H => by
  rw [shp,H 0 b c rfl rfl,shp_all (by simpa using h) (fun k b c h1 h2 => H (k + 1) b c h1 h2)]; rfl
theorem shp_no : ∀ {l s : List UInt8} (k : Nat) (b c : UInt8),l[k]? = some b → s[k]? = some c → shI b c = false → shp l s = false
 | [],_,k,_,_,h,_,_ => by simp at h
 | _ :: _,[],k,_,_,_,h,_ => by simp at h
 | b :: l,c :: s,0,x,y,h1,h2,h => by
  cases h1; cases h2
  rw [shp,h]; rfl
 | b :: l,c :: s,k + 1,x,y,h1,h2,h => by
  rw [shp,shp_no k x y h1 h2 h,Bool.and_false]
theorem drew_more {w wr : World} {m : Nat} (h : ∃ n,wr = w.drewN n) : ∃ n,wr.drewN m = w.drewN n := by
 obtain ⟨n,rfl⟩ := h
 exact ⟨n + m,by rw [World.drewN_drewN]⟩
theorem at_some (s : ByteArray) (k : Nat) (h : k < s.size) : s.data.toList[k]? = some s[k] := by
 rw [List.getElem?_eq_getElem (by rw [size_list]; exact h)]; rfl
set_option maxRecDepth 100000 in
set_option maxHeartbeats 1000000 in
theorem tshape_any (s sh : ByteArray) (w : World) (hs : s.size ≤ 1000000) :
  Calls Tryz.prog 267 #[.string s,.string sh] w fun e w' => e = .returned (.bool (shp s.data.toList sh.data.toList)) ∧ ∃ n,w' = w.drewN n := by
 have HZ := hid (size_list s)
 have HZ2 := hid (size_list sh)
 by_cases hl : s.size = sh.size
 ·have HL := hid hl
  have g : ((s.size : Int) != (sh.size : Int)) = false := by rw [bne_eq_false_iff_eq]; omega
  have HNO := hid (fun k b c => shp_no (l := s.data.toList) (s := sh.data.toList) k b c)
  have HALL := hid (shp_all (l := s.data.toList) (s := sh.data.toList) (by rw [HZ.out,HZ2.out]; exact hl))
  obtain ⟨R,hR⟩ : ∃ R,shp s.data.toList sh.data.toList = R := ⟨_,rfl⟩
  rw [hR] at HNO HALL ⊢
  clear hR hl
  have HC := hid (fun b X => tamong_ten b X)
  go_enter Tryz.func267,Tryz.ntmps267
  go_wp2_with fail
  go_loopw [13] (fun x wr => ∃ k : Nat,k ≤ s.size ∧ x = .int .i64 (k : Int) ∧ Hid (∃ n,wr = w.drewN n) ∧ Hid (∀ (j : Nat) b c,j < k → s.data.toList[j]? = some b → sh.data.toList[j]? = some c → shI b c = true)) (fun x _ => s.size - (intOf x).toNat)
  case atStart => exact ⟨0,Nat.zero_le _,rfl,⟨0,rfl⟩,fun j b c h => absurd h (Nat.not_lt_zero _)⟩
  case round =>
   obtain ⟨k,hk,rfl,HW,HJ⟩ := hrel
   by_cases hlt : k < s.size
   ·have hlt2 : k < sh.size := by have := HL.out; omega
    have A1 := hid (at_some s k hlt)
    have A2 := hid (at_some sh k hlt2)
    have hb1 := s[k].toNat_lt
    have hb2 := sh[k].toNat_lt
    have HX := hid (HNO.out k s[k] sh[k] A1.out A2.out)
    have HK : Hid (shI s[k] sh[k] = true → ∀ (j : Nat) b c,j < k + 1 → s.data.toList[j]? = some b → sh.data.toList[j]? = some c → shI b c = true) := fun h j b c hj h1 h2 => by
     by_cases e : j = k
     ·subst e; rw [A1.out] at h1; rw [A2.out] at h2; cases h1; cases h2; exact h
     ·exact HJ.out j b c (by omega) h1 h2
    have CC := hid (HC.out s[k])
    by_cases h48 : sh[k].toNat = 48
    ·have HI : Hid (shI s[k] sh[k] = dgI s[k]) := by
      show _ = _
      unfold shI; rw [if_pos h48]
     rw [HI.out] at HX HK
     have g1 : ((sh[k].toNat : Int) == 48) = true := by rw [beq_iff_eq]; omega
     have g2 : ((sh[k].toNat : Int) != 48) = false := by rw [bne_eq_false_iff_eq]; omega
     clear h48 HI
     cases hd : dgI s[k] with
     | true =>
      rw [hd] at CC HX HK
      have HK2 := hid (HK.out rfl)
      clear HX HK hd A1 A2
      have hlt3 : k < sh.size := hlt2
      have hlt4 : k < s.size := hlt
      go_wp2_with fail
      go_quiet ((go_at_call 229; exact Calls.quiet_of_same (CC.out _)))
      go_wp2_with fail
      go_round
      case rel => exact ⟨k + 1,by omega,val_int (by omega),drew_more HW.out,HK2.out⟩
      case measure => simp [intOf]; omega
     | false =>
      rw [hd] at CC HX HK
      have HX2 := hid (HX.out rfl)
      clear HX HK hd A1 A2
      have hlt3 : k < sh.size := hlt2
      have hlt4 : k < s.size := hlt
      go_wp2_with fail
      go_quiet ((go_at_call 229; exact Calls.quiet_of_same (CC.out _)))
      go_wp2_with fail
      go_ret
      exact ⟨ret_bool HX2.out.symm,drew_more HW.out⟩
    ·have HI : Hid (shI s[k] sh[k] = decide (sh[k].toNat = s[k].toNat)) := by
      show _ = _
      unfold shI; rw [if_neg h48]
     rw [HI.out] at HX HK
     have g1 : ((sh[k].toNat : Int) == 48) = false := by rw [beq_eq_false_iff_ne]; omega
     have g2 : ((sh[k].toNat : Int) != 48) = true := by rw [bne_iff_ne]; omega
     clear h48 HI CC
     by_cases he : sh[k].toNat = s[k].toNat
     ·have g3 : ((sh[k].toNat : Int) != (s[k].toNat : Int)) = false := by rw [bne_eq_false_iff_eq]; omega
      have HK2 := hid (HK.out (decide_eq_true he))
      clear HX HK A1 A2 he
      have hlt3 : k < sh.size := hlt2
      have hlt4 : k < s.size := hlt
      go_wp2_with fail
      go_quiet (fail)
      go_wp2_with fail
      go_round
      case rel => exact ⟨k + 1,by omega,val_int (by omega),drew_more HW.out,HK2.out⟩
      case measure => simp [intOf]; omega
     ·have g3 : ((sh[k].toNat : Int) != (s[k].toNat : Int)) = true := by rw [bne_iff_ne]; omega
      have HX2 := hid (HX.out (decide_eq_false he))
      clear HX HK A1 A2 he
      have hlt3 : k < sh.size := hlt2
      have hlt4 : k < s.size := hlt
      go_wp2_with fail
      go_quiet (fail)
      go_wp2_with fail
      go_ret
      exact ⟨ret_bool HX2.out.symm,drew_more HW.out⟩
   ·have HE := hid (HALL.out (fun j b c h1 h2 => HJ.out j b c (by have := (List.getElem?_eq_some_iff.1 h1).1; rw [HZ.out] at this; omega) h1 h2))
    go_wp2_with fail
    go_ret
    exact ⟨ret_bool HE.out.symm,HW.out⟩
 ·have g : ((s.size : Int) != (sh.size : Int)) = true := by rw [bne_iff_ne]; omega
  have HE := hid (shp_len (l := s.data.toList) (s := sh.data.toList) (by rw [HZ.out,HZ2.out]; exact hl))
  go_enter Tryz.func267,Tryz.ntmps267
  go_wp2_with fail
  go_ret
  exact ⟨ret_bool HE.out.symm,0,rfl⟩
set_option maxRecDepth 100000 in
set_option maxHeartbeats 1000000 in
theorem tcount_any (s : ByteArray) (w : World) (hs : s.size ≤ 4) (hd : ∀ b ∈ s.data.toList,dgI b = true) :
  Calls Tryz.prog 268 #[.string s] w fun e w' => e = .returned (.int .i64 (pval s.data.toList : Nat)) ∧ Below w.heap.size w w' := by
 have HZ := hid (size_list s)
 have HDD := hid hd
 clear hd
 have hcv := run_bytes_of_string (P := Tryz.prog) w 9 116 5 s Tryz.underlying9 Tryz.underlying116 Tryz.underlying5
 go_enter Tryz.func268,Tryz.ntmps268
 go_upto_region 2 with fail
 go_cut [7,8,9] (fun a b c wx => ∃ cap,a = .slice (some ⟨w.heap.size,0,none⟩) s.size cap ∧ b = .int .i64 s.size ∧ c = .int .i64 0 ∧ s.size ≤ cap ∧ Hid (∀ k (h : k < s.size),wx.cell? ⟨w.heap.size,k,none⟩ = some (.int .u8 (s[k].toNat : Int))) ∧ Hid (Below w.heap.size w wx))
 case first =>
  go_wp2_with fail
  go_meet
  exact ⟨_,rfl,rfl,rfl,grownCap_ge _ _ _ _,(show ∀ k (h : k < s.size),_ = _ from fun k hk => ebrow_at s k (w.drewN 1) _ _ _ hk),(Below.refl _ _).drew.alloc (by simp) _⟩
 case rest =>
 obtain ⟨cap,rfl,rfl,rfl,hcap,HC,HW⟩ := hcut
 clear hcv
 go_wp2_with fail
 go_loop [3,9] (fun v i => ∃ j n : Nat,j ≤ s.size ∧ i = .int .i64 j ∧ v = .int .i64 (n : Int) ∧ Hid (n = pval (s.data.toList.take j)) ∧ Hid (n < 10 ^ j)) (fun _ i => s.size - (intOf i).toNat)
 case atStart => exact ⟨0,0,Nat.zero_le _,rfl,rfl,rfl,(show 0 < 10 ^ 0 by decide)⟩
 case round =>
  obtain ⟨j,n,hj,rfl,rfl,HN,HP⟩ := hrel
  by_cases hlt : j < s.size
  ·have hcell := HC.out j hlt
   have hdj : dgI s[j] = true := HDD.out s[j] (List.mem_of_getElem? (at_some s j hlt))
   have hb : 48 ≤ s[j].toNat ∧ s[j].toNat ≤ 57 := by unfold dgI at hdj; simpa using hdj
   obtain ⟨hb1,hb2⟩ := hb
   have HN2 := hid (show n * 10 + (s[j].toNat - 48) = pval (s.data.toList.take (j + 1)) by
    rw [take_snoc s j hlt,pval_snoc,if_pos (by unfold isD; simp; omega),← HN.out]; omega)
   have hn : n < 1000 := by
    have h3 : j ≤ 3 := by omega
    have := HP.out
    have h4 : 10 ^ j ≤ 10 ^ 3 := Nat.pow_le_pow_right (by decide) h3
    omega
   have HP2 := hid (show n * 10 + (s[j].toNat - 48) < 10 ^ (j + 1) by have := HP.out; rw [Nat.pow_succ]; omega)
   clear hdj HN HP
   go_wp2_with fail
   go_round
   case rel => exact ⟨j + 1,n * 10 + (s[j].toNat - 48),hlt,val_int (by omega),val_int (by omega),HN2.out,HP2.out⟩
   case measure => simp [intOf]; omega
  ·have HE := hid (show n = pval s.data.toList by have := HN.out; rw [List.take_of_length_le (by rw [HZ.out]; omega)] at this; exact this)
   go_wp2_with fail
   go_ret
   exact ⟨ret_int (by rw [HE.out]),HW.out⟩
theorem dim_le (y m : Nat) : dim y m ≤ 31 := by unfold dim; (repeat' split) <;> omega
set_option maxRecDepth 100000 in
set_option maxHeartbeats 1000000 in
theorem tdays_any (y m : Nat) (w : World) (hy : y ≤ 9999) :
  Calls Tryz.prog 269 #[.int .i64 (y : Int),.int .i64 (m : Int)] w fun e w' => e = .returned (.int .i64 (dim y m : Nat)) ∧ w' = w := by
 obtain ⟨a,ha⟩ : ∃ a : Nat,y % 4 = a := ⟨_,rfl⟩
 obtain ⟨b,hb⟩ : ∃ b : Nat,y % 100 = b := ⟨_,rfl⟩
 obtain ⟨c,hc⟩ : ∃ c : Nat,y % 400 = c := ⟨_,rfl⟩
 have HD : Hid (dim y m = if m = 4 ∨ m = 6 ∨ m = 9 ∨ m = 11 then 30 else if m = 2 then (if (a = 0 ∧ b ≠ 0) ∨ c = 0 then 29 else 28) else 31) := by
  show _ = _
  unfold dim; rw [ha,hb,hc]
 go_enter Tryz.func269,Tryz.ntmps269
 go_wp2
 all_goals (go_ret; refine ⟨ret_int ?_,rfl⟩; rw [HD.out])
 all_goals (try simp only [beq_iff_eq,beq_eq_false_iff_ne] at *)
 all_goals (have HD := 0; (repeat' split) <;> omega)
end Go.Proofs.YteimbjamnfkapaaGreatDoor
