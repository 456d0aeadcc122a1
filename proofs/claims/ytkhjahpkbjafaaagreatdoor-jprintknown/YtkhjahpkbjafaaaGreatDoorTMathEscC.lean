/- Plain mathematics: the words that spell a value are read as that value. -/
import Derived.Test.YtkhjahpkbjafaaaGreatDoorTJrOne
import Derived.Test.YtkhjahpkbjafaaaGreatDoorTVPlain
import Derived.Test.YtkhjahpkbjafaaaGreatDoorTRefVal7
import Derived.Test.YtkhjahpkbjafaaaGreatDoorTMathEscB
/- Plain mathematics: words that are read as a value at some depth, whatever stands behind them. -/
/- Plain mathematics: lists and maps in one another, and a row of noughts, as texts that are read. -/
/- What is cut off is wrong at its end or ahead of it: plain mathematics. -/
namespace Go.Proofs.YtkhjahpkbjafaaaGreatDoor
open Go.RowKit

/-- a word, wherever it stands -/
def shp (x : Wd) : Nat × List UInt8 := (x.kd, x.tx)
/-- how a value without parts is spelt -/
def shS (k n : Int) (s : ByteArray) : Nat × List UInt8 :=
  if k = 1 then (4, if n = 1 then [116, 114, 117, 101] else [102, 97, 108, 115, 101]) else if k = 2 then (3, txt n) else if k = 3 then (3, s.data.toList) else if k = 4 ∨ k = 7 then (2, s.data.toList) else (4, [110, 117, 108, 108])
mutual
/-- how a value is spelt; a list's parts; those behind the first; a map's pairs likewise -/
def shV : VT → List (Nat × List UInt8)
  | .mk k n s L K V => if k = 5 then (1, [91]) :: (shL L ++ [(1, [93])]) else if k = 6 then (1, [123]) :: (shM V K ++ [(1, [125])]) else [shS k n s]
def shL : List VT → List (Nat × List UInt8)
  | [] => []
  | t :: r => shV t ++ shLc r
def shLc : List VT → List (Nat × List UInt8)
  | [] => []
  | t :: r => (1, [44]) :: (shV t ++ shLc r)
def shM : List VT → List ByteArray → List (Nat × List UInt8)
  | [], _ => []
  | t :: r, K => (2, (K.headD ⟨#[]⟩).data.toList) :: (1, [58]) :: (shV t ++ shMc r K.tail)
def shMc : List VT → List ByteArray → List (Nat × List UInt8)
  | [], _ => []
  | t :: r, K => (1, [44]) :: (2, (K.headD ⟨#[]⟩).data.toList) :: (1, [58]) :: (shV t ++ shMc r K.tail)
end
mutual
/-- what is read back: a stamp is a string now -/
def bkT : VT → VT
  | .mk k n s L K V => .mk (if k = 7 then 4 else k) n s (bkL L) K (bkL V)
def bkL : List VT → List VT
  | [] => []
  | t :: r => bkT t :: bkL r
end
mutual
/-- numbers that are of 64 bits, as many keys as values -/
def wfT : VT → Prop
  | .mk _ n _ L K V => (-9223372036854775808 ≤ n ∧ n < 9223372036854775808) ∧ K.length = V.length ∧ wfL L ∧ wfL V
def wfL : List VT → Prop
  | [] => True
  | t :: r => wfT t ∧ wfL r
end
/-- what reading the words of a value comes to -/
def Sp (N : Nat) : Prop := ∀ (v : VT), szT v ≤ N → plainT v = true → wfT v → ∀ (ws r : List Wd) (d n f : Nat), ws.map shp = shV v → d + hgT v ≤ 33 → n + szT v ≤ 4096 → 2 * ws.length + 1 ≤ f → jrV f d n (ws ++ r) = .ok (bkT v) (n + szT v) r
/-- keys that rise, with those ahead of them -/
def Ris (P : List (ByteArray × VT)) (K : List ByteArray) : Prop := (∀ a ∈ P, ∀ c ∈ K, ltB a.1.data.toList c.data.toList = true ∧ ¬ a.1.data.toList = c.data.toList) ∧ ∀ (i j : Nat) (a b : ByteArray), i < j → K[i]? = some a → K[j]? = some b → ltB a.data.toList b.data.toList = true ∧ ¬ a.data.toList = b.data.toList
theorem Ris.next {P : List (ByteArray × VT)} {c : ByteArray} {K : List ByteArray} {x : VT} (h : Ris P (c :: K)) : Ris (P ++ [(c, x)]) K := by
  refine ⟨fun a ha b hb => ?_, fun i j a b hij hi hj => h.2 (i + 1) (j + 1) a b (by omega) (by simpa using hi) (by simpa using hj)⟩
  rcases List.mem_append.1 ha with ha | ha
  · exact h.1 a ha b (List.mem_cons_of_mem _ hb)
  · rw [List.mem_singleton.1 ha]
    obtain ⟨j, hj⟩ := List.getElem?_of_mem hb
    exact h.2 0 (j + 1) c b (by omega) rfl (by simpa using hj)
end Go.Proofs.YtkhjahpkbjafaaaGreatDoor
namespace Go.Proofs.YtkhjahpkbjafaaaGreatDoor
open Go.RowKit

theorem beg_isM {x : Wd} {r : List Wd} {c : UInt8} (h : begB x = true) (h1 : c ≠ 123) (h2 : c ≠ 91) : isM c (x :: r) = false := by
  refine isM_no (fun ⟨h3, h4⟩ => beg_yes h (Or.inr ⟨h3, ?_, ?_⟩))
  · rw [h4]; intro e; injection e with e; exact h1 e
  · rw [h4]; intro e; injection e with e; exact h2 e
/-- these words, so deep, are this tree of so many nodes, whatever stands behind them -/
def Rds (d : Nat) (ws : List Wd) (t : VT) (k : Nat) : Prop :=
  (∃ x r, ws = x :: r ∧ begB x = true) ∧ ∀ (n f : Nat) (r : List Wd), n + k ≤ 4096 → 2 * ws.length + 1 ≤ f → jrV f d n (ws ++ r) = .ok t (n + k) r
theorem Rds.not {d : Nat} {ws : List Wd} {t : VT} {k : Nat} (h : Rds d ws t k) {c : UInt8} (h1 : c ≠ 123) (h2 : c ≠ 91) (r : List Wd) : isM c (ws ++ r) = false := by
  obtain ⟨⟨x, q, rfl, hx⟩, -⟩ := h
  exact beg_isM hx h1 h2
/-- words of pairs, with commas between them -/
inductive RdM (d : Nat) : List Wd → List (ByteArray × VT) → Nat → Prop
  | one {xk xc : Wd} {wv : List Wd} {t : VT} {k : Nat} (h1 : xk.kd = 2) (h2 : shp xc = (1, [58])) (h3 : Rds (d + 1) wv t k) : RdM d (xk :: xc :: wv) [(mkS xk.tx, t)] k
  | more {xk xc xm : Wd} {wv ws : List Wd} {t : VT} {k m : Nat} {P : List (ByteArray × VT)} (h1 : xk.kd = 2) (h2 : shp xc = (1, [58])) (h3 : Rds (d + 1) wv t k) (h4 : shp xm = (1, [44])) (r : RdM d ws P m) : RdM d (xk :: xc :: (wv ++ xm :: ws)) ((mkS xk.tx, t) :: P) (k + m)
/-- pairs put in, one behind the other -/
def insA (acc P : List (ByteArray × VT)) : List (ByteArray × VT) := P.foldl (fun a p => insP p.1 p.2 false a) acc
theorem RdM.head {d : Nat} {ws : List Wd} {P : List (ByteArray × VT)} {m : Nat} (h : RdM d ws P m) : ∃ x r, ws = x :: r ∧ x.kd = 2 := by
  cases h with
  | one h1 _ _ => exact ⟨_, _, rfl, h1⟩
  | more h1 _ _ _ _ => exact ⟨_, _, rfl, h1⟩
/-- words one deep too deep: whatever begins here -/
def Bds (d : Nat) (ws : List Wd) : Prop := (∃ x r, ws = x :: r ∧ begB x = true) ∧ ∀ (n f : Nat) (r : List Wd), n + ws.length < 4096 → 2 * ws.length + 1 ≤ f → ∃ a, jrV f d n (ws ++ r) = .bad 2 a
/-- a row of noughts in a list -/
inductive RdZ : List Wd → Nat → Prop
  | one {x : Wd} (h : shp x = (3, [48])) : RdZ [x] 1
  | more {x xm : Wd} {ws : List Wd} {m : Nat} (h : shp x = (3, [48])) (h4 : shp xm = (1, [44])) (r : RdZ ws m) : RdZ (x :: xm :: ws) (m + 1)
theorem RdZ.head {ws : List Wd} {m : Nat} (h : RdZ ws m) : ∃ x r, ws = x :: r ∧ x.kd = 3 ∧ 1 ≤ m := by
  cases h with
  | one h => unfold shp at h; injection h with h1; exact ⟨_, _, rfl, h1, by omega⟩
  | more h _ _ => unfold shp at h; injection h with h1; exact ⟨_, _, rfl, h1, by omega⟩
end Go.Proofs.YtkhjahpkbjafaaaGreatDoor
namespace Go.Proofs.YtkhjahpkbjafaaaGreatDoor
open Go.RowKit

/-- the words of tokens, without the end -/
def wdsN : Nat → List Tk → List Wd
  | _, [] => []
  | i, t :: r => t.wd i ++ wdsN (i + t.tx.length) r
def opT : Bool → List Tk
  | true => [.sg 123, .st [107], .sg 58]
  | false => [.sg 91]
def clT : Bool → List Tk
  | true => [.sg 125]
  | false => [.sg 93]
/-- so many lists, or maps, around a one -/
def nst (kind : Bool) : Nat → List Tk
  | 0 => [.nu [49]]
  | n + 1 => opT kind ++ (nst kind n ++ clT kind)
def nestT (kind : Bool) : Nat → VT
  | 0 => leafT 2 1 ⟨#[]⟩
  | n + 1 => if kind then mapT [(⟨#[107]⟩, nestT kind n)] else listT [nestT kind n]
theorem Bds.app {d : Nat} {ws : List Wd} (h : Bds d ws) (q : List Wd) : Bds d (ws ++ q) := by
  obtain ⟨⟨x, r, rfl, hx⟩, hr⟩ := h
  refine ⟨⟨x, r ++ q, rfl, hx⟩, fun n f s hn hf => ?_⟩
  rw [List.length_append] at hn hf
  rw [List.append_assoc]
  exact hr n f (q ++ s) (by omega) (by omega)
def opB (kind : Bool) : List UInt8 := if kind then [123, 34, 107, 34, 58] else [91]
def clB (kind : Bool) : List UInt8 := if kind then [125] else [93]
/-- a text so many times -/
def rep (l : List UInt8) : Nat → List UInt8
  | 0 => []
  | n + 1 => rep l n ++ l
/-- a row of noughts -/
def rowT : Nat → List Tk
  | 0 => [.nu [48]]
  | m + 1 => .nu [48] :: .sg 44 :: rowT m
end Go.Proofs.YtkhjahpkbjafaaaGreatDoor
namespace Go.Proofs.YtkhjahpkbjafaaaGreatDoor
open Go.RowKit

/-- what a longer text cannot take back -/
def Keeps (P : List UInt8 → List UInt8 × Nat) : Prop := ∀ l m, 0 < (P l).2 → P (l ++ m) = P l
end Go.Proofs.YtkhjahpkbjafaaaGreatDoor
