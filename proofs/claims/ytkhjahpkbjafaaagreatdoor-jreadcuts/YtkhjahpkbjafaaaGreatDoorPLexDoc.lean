/- Texts that may be a string or a stamp. -/
import Derived.Test.YtkhjahpkbjafaaaGreatDoorRows
import Derived.WalkKit
import Derived.WalkSpells
import Derived.WalkLawsBesides
import Derived.Test.YtkhjahpkbjafaaaGreatDoorPMathUtf
import Derived.Test.YtkhjahpkbjafaaaGreatDoorPMathEsc
import Derived.Test.YtkhjahpkbjafaaaGreatDoorPMathDecAll
import Derived.Deep.QuietTactic
import Derived.BigQuiet
import Derived.StillTail
import Derived.OrdersHeld
import Derived.Deep.RegionHeld
import Derived.Deep.AppendLies
import Derived.Deep.Onto
/- Plain mathematics of JSON's words: no program is named here. -/
namespace Go.Proofs.YtkhjahpkbjafaaaGreatDoor
open Go.RowKit

theorem ret_int {k : IntKind} {a b : Int} (h : a = b) : Ending.returned (.int k a) = .returned (.int k b) := by rw [h]
theorem ret_bool {a b : Bool} (h : a = b) : Ending.returned (.bool a) = .returned (.bool b) := by rw [h]
theorem ret_two {k l : IntKind} {a b c d : Int} (h : a = b) (g : c = d) : Ending.returned (.tuple #[.int k a, .int l c]) = .returned (.tuple #[.int k b, .int l d]) := by rw [h, g]
theorem val_int {k : IntKind} {a b : Int} (h : a = b) : Value.int k a = Value.int k b := by rw [h]
theorem ret_ib {k : IntKind} {a b : Int} {c d : Bool} (h : a = b) (g : c = d) : Ending.returned (.tuple #[.int k a, .bool c]) = .returned (.tuple #[.int k b, .bool d]) := by rw [h, g]
theorem max_small {n : Nat} (h : n ≤ 1000) : n ≤ maxLen := by unfold maxLen; omega
theorem max_le {n : Nat} (h : n ≤ 1000000) : n ≤ maxLen := by unfold maxLen; omega
theorem ownsRow_below {w w' : World} {base : Nat} {e : TypeId} {size n : Nat} {v : Value} {xs : List Value} (h : w.ownsRow base e size v n xs) (hb : Below w.heap.size w w') : w'.ownsRow base e size v n xs :=
  h.kept (row := none) ⟨hb.os, hb.tape, hb.output, hb.size, fun k hk _ => hb.block k hk⟩ (by cases v.ownBlock <;> simp)
/-- the cells of a block just laid -/
theorem new_cells (w : World) (vs : List Value) (t : TypeId) : ∀ j u, vs[j]? = some u → (w.alloc (.cells vs.toArray t)).cell? (Addr.add ⟨w.heap.size, 0, none⟩ j) = some u := by
  intro j u h
  have := World.cell?_alloc_mark w vs.toArray t (0, 0) j
  have e : Addr.add ⟨w.heap.size, 0, none⟩ j = ⟨w.heap.size, j, none⟩ := by
    simp only [Addr.add, Nat.zero_add]; split
    · next h0 => rw [h0]
    · rfl
  rw [e, this]
  simpa using h
theorem cut_size (s : ByteArray) (p : Nat) (hs : s.size ≤ maxLen) : (s.extract p s.size).size ≤ maxLen := by
  have : (s.extract p s.size).size ≤ s.size := by simp
  exact Nat.le_trans this hs
end Go.Proofs.YtkhjahpkbjafaaaGreatDoor
namespace Go.Proofs.YtkhjahpkbjafaaaGreatDoor
open Go.RowKit

/-- where the first byte stands that begins no letter; -1: there is none -/
def rvI (l : List UInt8) : Int := if pos l (vlk l) = l.length then -1 else (pos l (vlk l) : Int)
theorem rv_yes (l : List UInt8) (h : pos l (vlk l) = l.length) : rvI l = -1 := by unfold rvI; rw [if_pos h]
theorem rv_no (l : List UInt8) (h : ¬ pos l (vlk l) = l.length) : rvI l = (pos l (vlk l) : Int) := by unfold rvI; rw [if_neg h]
def strOkB (s : ByteArray) : Bool := decide (s.size ≤ 4096) && decide (rvI s.data.toList < 0)
def stampB (s : ByteArray) : Bool := decide (1 ≤ s.size) && decide (s.size ≤ 64) && s.data.toList.all (fun b => decide (32 ≤ b.toNat) && decide (b.toNat ≤ 126))
end Go.Proofs.YtkhjahpkbjafaaaGreatDoor
namespace Go.Proofs.YtkhjahpkbjafaaaGreatDoor
open Go.RowKit

/-- the bytes of a word's kinds -/
def sgnB (b : UInt8) : Bool := decide (b.toNat = 123 ∨ b.toNat = 125 ∨ b.toNat = 91 ∨ b.toNat = 93 ∨ b.toNat = 58 ∨ b.toNat = 44)
def numS (b : UInt8) : Bool := decide ((48 ≤ b.toNat ∧ b.toNat ≤ 57) ∨ b.toNat = 43 ∨ b.toNat = 45 ∨ b.toNat = 46 ∨ b.toNat = 69)
def numC (b : UInt8) : Bool := numS b || decide (b.toNat = 101)
def lowC (b : UInt8) : Bool := decide (97 ≤ b.toNat ∧ b.toNat ≤ 122)
/-- a word: its kind, what it says, where it begins -/
structure Wd where
  kd : Nat
  tx : List UInt8
  at_ : Nat
/-- what stands at a place: a word's kind (9: a blank), its text, where it goes on; or an error (not 0) and where -/
structure LW where
  kd : Nat
  tx : List UInt8
  nx : Nat
  er : Nat
  ea : Nat
def lwS (T : List UInt8) (i : Nat) : LW :=
  if 0 ≤ (unqJ T i).2.2 then ⟨0, [], 0, 4, (unqJ T i).2.2.toNat⟩
  else if 4096 < (unqJ T i).1.length then ⟨0, [], 0, 2, i⟩
  else ⟨2, (unqJ T i).1, (unqJ T i).2.1, 0, 0⟩
def lwN (T : List UInt8) (i : Nat) : LW :=
  if 400 < run numC (T.drop i) then ⟨0, [], 0, 2, i⟩
  else if pOk ((T.drop i).take (run numC (T.drop i))) = false then ⟨0, [], 0, 4, i⟩
  else if pwOk (pP ((T.drop i).take (run numC (T.drop i)))) = false then ⟨0, [], 0, 6, i⟩
  else ⟨3, (T.drop i).take (run numC (T.drop i)), i + run numC (T.drop i), 0, 0⟩
def litB (l : List UInt8) : Bool := decide (l = [116, 114, 117, 101] ∨ l = [102, 97, 108, 115, 101] ∨ l = [110, 117, 108, 108])
def lwL (T : List UInt8) (i : Nat) : LW :=
  if litB ((T.drop i).take (run lowC (T.drop i))) = true then ⟨4, (T.drop i).take (run lowC (T.drop i)), i + run lowC (T.drop i), 0, 0⟩ else ⟨0, [], 0, 4, i⟩
def lw (T : List UInt8) (i : Nat) : LW :=
  match T[i]? with
  | none => ⟨0, [], 0, 4, i⟩
  | some b =>
    if blB b = true then ⟨9, [], i + 1, 0, 0⟩
    else if sgnB b = true then ⟨1, [b], i + 1, 0, 0⟩
    else if b.toNat = 34 then lwS T i
    else if numS b = true then lwN T i
    else lwL T i
def lx (T : List UInt8) : Nat → Nat → List Wd → List Wd × Nat × Nat
  | 0, _, _ => ([], 4, 0)
  | f + 1, i, acc =>
    if T.length ≤ i then (acc ++ [⟨0, [], T.length⟩], 0, 0)
    else if (lw T i).er ≠ 0 then ([], (lw T i).er, (lw T i).ea)
    else if (lw T i).kd = 9 then lx T f (lw T i).nx acc
    else lx T f (lw T i).nx (acc ++ [⟨(lw T i).kd, (lw T i).tx, i⟩])
/-- a text's words, or its first fault -/
def cutA (T : List UInt8) : List Wd × Nat × Nat :=
  if 65536 < T.length then ([], 2, T.length)
  else if 0 ≤ rvI T then ([], 3, (rvI T).toNat)
  else lx T (T.length + 1) 0 []
section
variable {T : List UInt8} {f i : Nat} {acc : List Wd}
theorem lx_end (hf : T.length < i + f) (hi : T.length ≤ i) (hle : i ≤ T.length) : lx T f i acc = (acc ++ [⟨0, [], T.length⟩], 0, 0) := by
  cases f with
  | zero => omega
  | succ f => rw [lx, if_pos hi]
theorem lx_bad (hf : T.length < i + f) (hi : i < T.length) (he : (lw T i).er ≠ 0) : lx T f i acc = ([], (lw T i).er, (lw T i).ea) := by
  cases f with
  | zero => omega
  | succ f => rw [lx, if_neg (by omega), if_pos he]
theorem lx_blank (hf : T.length < i + f) (hi : i < T.length) (he : (lw T i).er = 0) (hk : (lw T i).kd = 9) (hn : i < (lw T i).nx) : ∃ f', lx T f i acc = lx T f' (lw T i).nx acc ∧ T.length < (lw T i).nx + f' := by
  cases f with
  | zero => omega
  | succ f => exact ⟨f, by rw [lx, if_neg (by omega), if_neg (by omega), if_pos hk], by omega⟩
theorem lx_word (hf : T.length < i + f) (hi : i < T.length) (he : (lw T i).er = 0) (hk : (lw T i).kd ≠ 9) (hn : i < (lw T i).nx) : ∃ f', lx T f i acc = lx T f' (lw T i).nx (acc ++ [⟨(lw T i).kd, (lw T i).tx, i⟩]) ∧ T.length < (lw T i).nx + f' := by
  cases f with
  | zero => omega
  | succ f => exact ⟨f, by rw [lx, if_neg (by omega), if_neg (by omega), if_neg hk], by omega⟩
end
end Go.Proofs.YtkhjahpkbjafaaaGreatDoor
/- A region that draws its order and whose callees make memory but change none that was there: one walk serves every order, in the class of the worlds above. -/
/- A region that draws its order and whose last operation waits for all others: the others in whatever order, then the last. -/
/- A region that draws its order, of which a beginning has but one order. -/
/- A region that draws its order and is quiet from a point on: the check of its order over the list alone. -/
namespace Go.Proofs.YtkhjahpkbjafaaaGreatDoor
open Go.RowKit

/-- the worlds in which all that was there is as it was -/
structure Abv (w : World) where
  u : World
  h : Below w.heap.size w u
theorem abv_some (w : World) : Nonempty (Abv w) := ⟨⟨w, Below.refl _ _⟩⟩
theorem wp_region_above {P : Program} {id : Nat} {Q : Exit → Act → World → Prop} {a : Act} {w : World} {l : List Oper} (hm : P.follows .mixedOrders = true) (hB : Region.lexB .any l.toArray = true)
    (h : wpQuiet P l.toArray (fun w' => ∃ x : Abv w, w' = x.u) (fun a' => ∀ w', (∃ x : Abv w, w' = x.u) → Q .normal a' w') l a) : (Code.region id l.toArray true).wp P Q a w :=
  wp_region_quiet (C := fun w' => ∃ x : Abv w, w' = x.u) hm hB ⟨⟨w.drew, (Below.refl _ _).drew⟩, rfl⟩ (by simpa using h)
theorem above_of {P : Program} {f : FuncId} {args : Array Value} {w : World} {x : Abv w} {v : Value}
    (h : Calls P f args x.u fun e w' => e = .returned v ∧ Below x.u.heap.size x.u w') : Calls P f args x.u fun e w'' => e = .returned v ∧ ∃ y : Abv w, w'' = y.u :=
  h.mono fun _ w' ⟨he, hb⟩ => ⟨he, ⟨w', x.h.trans (hb.mono x.h.size)⟩, rfl⟩
theorem above_cell {w : World} {a : Addr} {v : Value} (h : w.cell? a = some v) (x : Abv w) : x.u.cell? a = some v := by
  rw [x.h.cell (World.block_lt_of_cell? w a h)]; exact h
end Go.Proofs.YtkhjahpkbjafaaaGreatDoor
namespace Go.Proofs.YtkhjahpkbjafaaaGreatDoor
open Go.RowKit

section
variable {P : Program} {Q : Exit → Act → World → Prop} {md : Region.Mode}

/-- behind the others comes the last -/
def lastQ (P : Program) (o : Oper) (Q : Exit → Act → World → Prop) : Exit → Act → World → Prop
  | .normal, a, w => o.wp P a w (Q .normal) Q
  | .panic c, a, w => Q (.panic c) a w
  | .outgrown, a, w => Q .outgrown a w
  | .exit i, a, w => Q (.exit i) a w
  | .goto i, a, w => Q (.goto i) a w
  | .ret, a, w => Q .ret a w
/-- two accounts of what has come up, with and without the last -/
structure Both (n : Nat) (listed listedF : Array Bool) : Prop where
  s1 : listed.size = n
  s2 : listedF.size = n + 1
  at_ : ∀ j, j < n → listedF[j]? = listed[j]?
  last : listedF[n]? = some false
theorem Both.set {n : Nat} {listed listedF : Array Bool} (h : Both n listed listedF) {i : Nat} (hi : i < n) : Both n (listed.setIfInBounds i true) (listedF.setIfInBounds i true) := by
  refine ⟨by simpa using h.s1, by simpa using h.s2, fun j hj => ?_, ?_⟩
  · rw [Array.getElem?_setIfInBounds, Array.getElem?_setIfInBounds, h.at_ j hj]
    by_cases e : i = j
    · rw [if_pos e, if_pos e, if_pos (by rw [h.s2]; omega), if_pos (by rw [h.s1]; omega)]
    · rw [if_neg e, if_neg e]
  · rw [Array.getElem?_setIfInBounds, if_neg (by omega)]; exact h.last
/-- one that only reads, taken first -/
theorem take_h {i : Nat} {oi : Oper} {v : Value} {fuel : Nat} {listed : Array Bool} {a : Act} {w : World} {l : List Oper} {S : World → Prop} (hi : l[i]? = some oi)
    (hs : Region.noSelect l.toArray = true) (hf : Region.free md l.toArray listed i = true) (hr : (Region.ready md l.toArray listed).contains i = true)
    (hQ : ∀ c a w, Q (.panic c) (a.put oi.dst v) w → Q (.panic c) a w) (hw : Region.wanted oi (yielded l.toArray a.tmps) = true) (hy : ∀ X, S X → (execOp a.eval oi).run P X = .ok (.value v) X) (hS : S w)
    (h : wpAnyH P md l.toArray Q S fuel (listed.setIfInBounds i true) (a.put oi.dst v) w) : wpAnyH P md l.toArray Q S (fuel + 1) listed a w :=
  wpAnyH_take (by rw [List.getElem?_toArray]; exact hi) hs hf hr hQ (Or.inl ⟨hw, hy⟩) hS h
/-- the one that may come up now -/
theorem step_h {i : Nat} {oi : Oper} {fuel : Nat} {listed : Array Bool} {a : Act} {w : World} {l : List Oper} {S : World → Prop} (hi : l[i]? = some oi) (hr : Region.ready md l.toArray listed = [i])
    (h : ∀ K : Act → World → Prop, Shut (∀ a w, S w → (S w → wpAnyH P md l.toArray Q S fuel (listed.setIfInBounds i true) a w) → K a w) → if Region.wanted oi (yielded l.toArray a.tmps) = true then Oper.wp P oi a w K Q else K (a.put oi.dst undef) w) : wpAnyH P md l.toArray Q S (fuel + 1) listed a w :=
  wpAnyH_ready hr (by simp) (AllReadyH.cons (by rw [List.getElem?_toArray]; exact hi) h AllReadyH.nil)
end
end Go.Proofs.YtkhjahpkbjafaaaGreatDoor
namespace Go.Proofs.YtkhjahpkbjafaaaGreatDoor
open Go.RowKit

section
variable {P : Program} {md : Region.Mode} {C : World → Prop}
/-- one after the other up to n, and nothing else before -/
def rowOk (md : Region.Mode) (n k : Nat) (o : Oper) : Bool :=
  if k < n then o.after.all (fun e => !Region.binds md e || decide (e.on < k)) && (decide (k = 0) || o.after.any (fun e => Region.binds md e && decide (e.on + 1 = k)))
  else o.after.any (fun e => Region.binds md e && decide (n ≤ e.on + 1))
def rowL (md : Region.Mode) (n : Nat) : Nat → List Oper → Bool
  | _, [] => true
  | k, o :: r => rowOk md n k o && rowL md n (k + 1) r
/-- the first k have come up -/
def FirstK (listed : Array Bool) (m k : Nat) : Prop := listed.size = m ∧ ∀ j, j < m → listed[j]? = some (decide (j < k))
theorem FirstK.next {listed : Array Bool} {m k : Nat} (h : FirstK listed m k) : FirstK (listed.setIfInBounds k true) m (k + 1) := by
  refine ⟨by simpa using h.1, fun j hj => ?_⟩
  rw [Array.getElem?_setIfInBounds]
  split
  · next e => subst e; rw [if_pos (by rw [h.1]; exact hj)]; simp
  · next e => rw [h.2 j hj]; congr 1; rw [decide_eq_decide]; omega
theorem FirstK.below {listed : Array Bool} {m k i : Nat} (h : FirstK listed m k) (hi : listed.getD i false = true) : i < k := by
  rcases Nat.lt_or_ge i m with hm | hm
  · have := h.2 i hm
    simp [Array.getD_eq_getD_getElem?, this] at hi
    exact hi
  · simp [Array.getD_eq_getD_getElem?, Array.getElem?_eq_none (show listed.size ≤ i by rw [h.1]; exact hm)] at hi
theorem FirstK.out {listed : Array Bool} {m k : Nat} (h : FirstK listed m k) (hm : k < m) : listed.getD k true = false := by
  have := h.2 k hm
  simp [Array.getD_eq_getD_getElem?, this]
end
end Go.Proofs.YtkhjahpkbjafaaaGreatDoor
namespace Go.Proofs.YtkhjahpkbjafaaaGreatDoor
open Go.RowKit

section
variable {P : Program} {md : Region.Mode} {C : World → Prop}
/-- what comes up in the order of the text may do so -/
def lexL (md : Region.Mode) (ops : Array Oper) : Nat → List Oper → Bool
  | _, [] => true
  | k, o :: r => o.after.all (fun e => !Region.binds md e || decide (e.on < k)) && r.all (fun oj => oj.after.any (fun e => Region.binds md e && e.on == k) || o.apart ops oj) && lexL md ops (k + 1) r
theorem wp_region_h {id : Nat} {Q : Exit → Act → World → Prop} {a : Act} {w : World} {l : List Oper} {S : World → Prop} (n : Nat) (hm : P.follows .mixedOrders = true) (hn : l.length = n)
    (h : wpAnyH P .any l.toArray Q S n (Array.replicate n false) a w.drew) : (Code.region id l.toArray true).wp P Q a w := by
  subst hn
  refine wp_region_any hm ?_
  have := wpAny_of_held _ _ _ _ h
  simpa using this
end
end Go.Proofs.YtkhjahpkbjafaaaGreatDoor
/- The document's own in and row of chapter 7: walked. -/
/- The document's own Cut of chapter 7: walked. -/
/- The document's own Cut of chapter 7: its loop. -/
/- The document's own Cut of chapter 7: whole. -/
namespace Go.Proofs.YtkhjahpkbjafaaaGreatDoor
open Go.RowKit

/-- is a byte one of these? -/
def inB (l : List UInt8) (b : UInt8) : Bool := l.any (fun x => decide (x.toNat = b.toNat))
theorem run_le (p : UInt8 → Bool) (l : List UInt8) : run p l ≤ l.length := by unfold run; exact (List.takeWhile_sublist p).length_le
theorem run_is {p : UInt8 → Bool} : ∀ {l : List UInt8} (n : Nat), n ≤ l.length → (∀ k (h : k < l.length), k < n → p l[k] = true) → (∀ h : n < l.length, p l[n] = false) → run p l = n
  | [], n, hn, _, _ => by simp at hn; subst hn; rfl
  | a :: l, 0, _, _, h => by
    have := h (by simp)
    unfold run; rw [List.takeWhile_cons, if_neg (by simpa using this)]; rfl
  | a :: l, n + 1, hn, hk, h => by
    have h0 := hk 0 (by simp) (by omega)
    have := run_is (p := p) (l := l) n (by simpa using hn) (fun k hk1 hk2 => by have := hk (k + 1) (by simpa using hk1) (by omega); simpa using this) (fun h' => by have := h (by simpa using h'); simpa using this)
    unfold run at this ⊢
    rw [List.takeWhile_cons, if_pos (by simpa using h0), List.length_cons, this]
end Go.Proofs.YtkhjahpkbjafaaaGreatDoor
namespace Go.Proofs.YtkhjahpkbjafaaaGreatDoor
open Go.RowKit

/-- a word's cells -/
def wc (x : Wd) : List Value := [.int .i64 (x.kd : Nat), .string (mkS x.tx), .int .i64 (x.at_ : Nat)]
/-- the byte's kinds, as the document asks for them -/
theorem in_bl (b : UInt8) : inB [32, 9, 10, 13] b = blB b := by
  unfold inB blB; simp only [List.any_cons, List.any_nil, Bool.or_false]
  rw [Bool.eq_iff_iff]; simp only [Bool.or_eq_true, decide_eq_true_eq]
  simp only [show (32 : UInt8).toNat = 32 from rfl, show (9 : UInt8).toNat = 9 from rfl, show (10 : UInt8).toNat = 10 from rfl, show (13 : UInt8).toNat = 13 from rfl]
  omega
theorem in_sg (b : UInt8) : inB [123, 125, 91, 93, 58, 44] b = sgnB b := by
  unfold inB sgnB; simp only [List.any_cons, List.any_nil, Bool.or_false]
  rw [Bool.eq_iff_iff]; simp only [Bool.or_eq_true, decide_eq_true_eq]
  simp only [show (123 : UInt8).toNat = 123 from rfl, show (125 : UInt8).toNat = 125 from rfl, show (91 : UInt8).toNat = 91 from rfl, show (93 : UInt8).toNat = 93 from rfl, show (58 : UInt8).toNat = 58 from rfl, show (44 : UInt8).toNat = 44 from rfl]
  omega
theorem of256 {f g : UInt8 → Bool} (h : ∀ n : Fin 256, f (UInt8.ofNat n.val) = g (UInt8.ofNat n.val)) (b : UInt8) : f b = g b := by
  have := h ⟨b.toNat, b.toNat_lt⟩
  simpa using this
set_option maxRecDepth 10000 in
theorem in_nc (b : UInt8) : inB [48, 49, 50, 51, 52, 53, 54, 55, 56, 57, 43, 45, 46, 101, 69] b = numC b := by
  exact of256 (by decide +kernel) b
set_option maxRecDepth 10000 in
theorem in_lc (b : UInt8) : inB [97, 98, 99, 100, 101, 102, 103, 104, 105, 106, 107, 108, 109, 110, 111, 112, 113, 114, 115, 116, 117, 118, 119, 120, 121, 122] b = lowC b := by
  exact of256 (by decide +kernel) b
end Go.Proofs.YtkhjahpkbjafaaaGreatDoor
namespace Go.Proofs.YtkhjahpkbjafaaaGreatDoor
open Go.RowKit

theorem lw_bl {T : List UInt8} {i : Nat} {b : UInt8} (hT : T[i]? = some b) (h : blB b = true) : lw T i = ⟨9, [], i + 1, 0, 0⟩ := by
  unfold lw; rw [hT]; simp only [h, if_true]
theorem lw_sg {T : List UInt8} {i : Nat} {b : UInt8} (hT : T[i]? = some b) (h : blB b = false) (h2 : sgnB b = true) : lw T i = ⟨1, [b], i + 1, 0, 0⟩ := by
  unfold lw; rw [hT]; simp only [h, h2, if_true, Bool.false_eq_true, if_false]
theorem lw_qt {T : List UInt8} {i : Nat} {b : UInt8} (hT : T[i]? = some b) (h : blB b = false) (h2 : sgnB b = false) (h3 : b.toNat = 34) : lw T i = lwS T i := by
  unfold lw; rw [hT]; simp only [h, h2, h3, if_true, Bool.false_eq_true, if_false]
theorem lw_nm {T : List UInt8} {i : Nat} {b : UInt8} (hT : T[i]? = some b) (h : blB b = false) (h2 : sgnB b = false) (h3 : b.toNat ≠ 34) (h4 : numS b = true) : lw T i = lwN T i := by
  unfold lw; rw [hT]; simp only [h, h2, h3, h4, if_true, Bool.false_eq_true, if_false]
theorem lw_lt {T : List UInt8} {i : Nat} {b : UInt8} (hT : T[i]? = some b) (h : blB b = false) (h2 : sgnB b = false) (h3 : b.toNat ≠ 34) (h4 : numS b = false) : lw T i = lwL T i := by
  unfold lw; rw [hT]; simp only [h, h2, h3, h4, Bool.false_eq_true, if_false]
theorem list_at (t : ByteArray) (i : Nat) (h : i < t.size) : t.data.toList[i]? = some t[i] := by
  rw [List.getElem?_eq_getElem (by rw [size_list]; exact h)]; rfl
theorem run_pos {p : UInt8 → Bool} {T : List UInt8} {i : Nat} {b : UInt8} (h : T[i]? = some b) (hp : p b = true) : 0 < run p (T.drop i) := by
  obtain ⟨hi, hb⟩ := List.getElem?_eq_some_iff.1 h
  rw [List.drop_eq_getElem_cons hi, hb]
  unfold run; rw [List.takeWhile_cons, if_pos hp]; simp
theorem num_sc {b : UInt8} (h : numS b = true) : numC b = true := by unfold numC; rw [h]; rfl
/-- a word's cells as they are laid -/
def lc (k : Nat) (s : ByteArray) (i : Nat) : List Value := [.int .i64 (k : Nat), .string s, .int .i64 (i : Nat)]
theorem lc_one (k : Nat) (s : ByteArray) (i : Nat) : ∀ u ∈ lc k s i, u.oneCell' = true := by
  intro u hu
  unfold lc at hu
  simp at hu
  rcases hu with rfl | rfl | rfl <;> rfl
theorem lc_own {w : World} {b : Nat} {ty : TypeId} {v : Value} {acc : List Wd} {k i : Nat} {s : ByteArray} {tx : List UInt8} (h : w.ownsRow b ty 3 v (acc.length + 1) (acc.flatMap wc ++ lc k s i)) (hs : s = mkS tx) : w.ownsRow b ty 3 v (acc ++ [(⟨k, tx, i⟩ : Wd)]).length ((acc ++ [(⟨k, tx, i⟩ : Wd)]).flatMap wc) := by
  subst hs
  simpa [List.flatMap_append, lc, wc] using h
end Go.Proofs.YtkhjahpkbjafaaaGreatDoor
namespace Go.Proofs.YtkhjahpkbjafaaaGreatDoor
open Go.RowKit

end Go.Proofs.YtkhjahpkbjafaaaGreatDoor
