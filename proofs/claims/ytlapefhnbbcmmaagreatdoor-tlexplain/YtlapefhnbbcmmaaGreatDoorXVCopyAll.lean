/- Trees that are alike. -/
import Derived.Test.YtlapefhnbbcmmaaGreatDoorXBase
import Derived.ChangeArms
import Derived.DataElems
import Derived.Laws.MakeOwn
import Derived.Lib.Strings
import Derived.Test.YtlapefhnbbcmmaaGreatDoorXMathDecAll
import Derived.Test.YtlapefhnbbcmmaaGreatDoorXOrders
import Derived.Test.YtlapefhnbbcmmaaGreatDoorXVStr
import Derived.Test.YtlapefhnbbcmmaaGreatDoorXDecOne
import Derived.Deep.LoopGhost
import Derived.Deep.RegionHeld
/- Trees of values as they lie in memory: my own trees, where one lies, and that an argument is one. -/
/- Trees that lie in blocks of their own, and changes that keep to some blocks. -/
/- How many nodes a tree has, and how deep it is. -/
/- Rows of cells in a block of one's own: what may be stored there, and what lies there then. -/
/- The value of a key. -/
namespace Go.Proofs.YtlapefhnbbcmmaaGreatDoor
open Go.RowKit

/-- a tree: kind, number, text, a list's parts, a map's keys and their values -/
inductive VT where
  | mk (k n : Int) (s : ByteArray) (L : List VT) (K : List ByteArray) (V : List VT)
namespace VT
def kd : VT → Int | mk k _ _ _ _ _ => k
def nm : VT → Int | mk _ n _ _ _ _ => n
def st : VT → ByteArray | mk _ _ s _ _ _ => s
def ls : VT → List VT | mk _ _ _ L _ _ => L
def ks : VT → List ByteArray | mk _ _ _ _ K _ => K
def vs : VT → List VT | mk _ _ _ _ _ V => V
end VT
mutual
def szT : VT → Nat
  | .mk _ _ _ L _ V => 1 + szL L + szL V
def szL : List VT → Nat
  | [] => 0
  | t :: r => szT t + szL r
end
theorem szT_pos (T : VT) : 1 ≤ szT T := by cases T; simp only [szT]; omega
theorem szL_get : ∀ (L : List VT) (i : Nat) (t : VT), L[i]? = some t → szT t ≤ szL L
  | [], i, t, h => by simp at h
  | a :: r, 0, t, h => by simp at h; subst h; simp only [szL]; omega
  | a :: r, i + 1, t, h => by
    simp at h
    have := szL_get r i t h
    simp only [szL]; omega
theorem szT_ls (T : VT) (i : Nat) (t : VT) (h : T.ls[i]? = some t) : szT t < szT T := by
  cases T with
  | mk k n s L K V => have := szL_get L i t h; simp only [szT]; omega
theorem szT_vs (T : VT) (i : Nat) (t : VT) (h : T.vs[i]? = some t) : szT t < szT T := by
  cases T with
  | mk k n s L K V => have := szL_get V i t h; simp only [szT]; omega
/-- a value's five cells -/
def Node (w : World) (a : Addr) (T : VT) (x y : Value) : Prop :=
  w.cell? a = some (.int .i64 T.kd) ∧ w.cell? ⟨a.block, a.off + 1, none⟩ = some (.int .i64 T.nm) ∧ w.cell? ⟨a.block, a.off + 2, none⟩ = some (.string T.st) ∧ w.cell? ⟨a.block, a.off + 3, none⟩ = some x ∧ w.cell? ⟨a.block, a.off + 4, none⟩ = some y
/-- a slice of so many -/
def SlOf (v : Value) (a : Addr) (n : Nat) : Prop := ∃ (o : Option Addr) (cap : Nat), v = .slice o n cap ∧ n ≤ cap ∧ cap ≤ maxLen ∧ (0 < n → o = some a)
/-- the cell behind a cell -/
def nx (a : Addr) : Addr := ⟨a.block, a.off + 1, none⟩
/-- a tree lies in memory behind its two slices -/
inductive HV (w : World) : VT → Value → Value → Prop
  | mk {k n : Int} {s : ByteArray} {L : List VT} {K : List ByteArray} {V : List VT} {x y : Value} (a b : Addr) (f g p q : Nat → Value)
      (hk : (Lit.int .i64 k).wf = true) (hn : (Lit.int .i64 n).wf = true) (hs : s.size ≤ maxLen)
      (hL : SlOf x a L.length) (hM : SlOf y b V.length) (hK : K.length = V.length)
      (cL : ∀ i t, L[i]? = some t → Node w (a.add (i * 5)) t (f i) (g i))
      (cK : ∀ i u, K[i]? = some u → w.cell? (b.add (i * 6)) = some (.string u) ∧ u.size ≤ maxLen)
      (cM : ∀ i t, V[i]? = some t → Node w (nx (b.add (i * 6))) t (p i) (q i))
      (rL : ∀ i t, L[i]? = some t → HV w t (f i) (g i))
      (rM : ∀ i t, V[i]? = some t → HV w t (p i) (q i)) : HV w (.mk k n s L K V) x y
/-- the value that a tree is -/
def vv (T : VT) (x y : Value) : Value := .agg #[.int .i64 T.kd, .int .i64 T.nm, .string T.st, x, y]
theorem keepCell {w w' : World} (hb : Below w.heap.size w w') {a : Addr} {v : Value} (hc : w.cell? a = some v) : w'.cell? a = some v := by
  rw [hb.cell (World.block_lt_of_cell? w a hc)]; exact hc
theorem Node.onto {w w' : World} {a : Addr} {T : VT} {x y : Value} (h : Node w a T x y) (hb : Below w.heap.size w w') : Node w' a T x y :=
  ⟨keepCell hb h.1, keepCell hb h.2.1, keepCell hb h.2.2.1, keepCell hb h.2.2.2.1, keepCell hb h.2.2.2.2⟩
theorem HV.onto {w w' : World} {T : VT} {x y : Value} (h : HV w T x y) (hb : Below w.heap.size w w') : HV w' T x y := by
  induction h with
  | mk a b f g p q hk hn hs hL hM hK cL cK cM _ _ ihL ihM =>
    exact .mk a b f g p q hk hn hs hL hM hK (fun i t h => (cL i t h).onto hb) (fun i u h => ⟨keepCell hb (cK i u h).1, (cK i u h).2⟩) (fun i t h => (cM i t h).onto hb) ihL ihM
section
variable {H : Type} {enc : TypeId × Value → H} {w : World} {base : Nat} {spare : Nat → Bool} {held : Bool}
end
end Go.Proofs.YtlapefhnbbcmmaaGreatDoor
namespace Go.Proofs.YtlapefhnbbcmmaaGreatDoor
open Go.RowKit

/-- the blocks outside lo to hi are as they were -/
structure Chg (lo hi : Nat) (w w' : World) : Prop where
  os : w'.os = w.os
  tape : w'.tape = w.tape
  output : w'.output = w.output
  size : w.heap.size ≤ w'.heap.size
  block : ∀ k, k < w.heap.size → ¬ (lo ≤ k ∧ k < hi) → w'.heap[k]? = w.heap[k]?
theorem Chg.refl (lo hi : Nat) (w : World) : Chg lo hi w w := ⟨rfl, rfl, rfl, Nat.le_refl _, fun _ _ _ => rfl⟩
theorem Chg.trans {lo hi : Nat} {a b c : World} (h : Chg lo hi a b) (k : Chg lo hi b c) : Chg lo hi a c :=
  ⟨k.os.trans h.os, k.tape.trans h.tape, k.output.trans h.output, Nat.le_trans h.size k.size, fun i hi hn => (k.block i (Nat.lt_of_lt_of_le hi h.size) hn).trans (h.block i hi hn)⟩
theorem Chg.wide {lo hi lo' hi' : Nat} {a b : World} (h : Chg lo hi a b) (h1 : lo' ≤ lo) (h2 : hi ≤ hi') : Chg lo' hi' a b :=
  ⟨h.os, h.tape, h.output, h.size, fun i hi hn => h.block i hi (by omega)⟩
theorem Chg.of {lo hi : Nat} {a b : World} (h : Below a.heap.size a b) : Chg lo hi a b := ⟨h.os, h.tape, h.output, h.size, fun i hi _ => h.block i hi⟩
/-- a change among blocks that were not there is none -/
theorem Chg.new {lo hi : Nat} {a b : World} (h : Chg lo hi a b) (hn : a.heap.size ≤ lo) : Below a.heap.size a b := ⟨h.os, h.tape, h.output, h.size, fun i hi => h.block i hi (by omega)⟩
theorem Chg.below {lo hi : Nat} {a b : World} (h : Chg lo hi a b) {B : Nat} (h1 : B ≤ lo) (h2 : B ≤ a.heap.size) : Below B a b := ⟨h.os, h.tape, h.output, h.size, fun i hi => h.block i (by omega) (by omega)⟩
theorem Chg.alloc {lo hi : Nat} {a w : World} (h : Chg lo hi a w) (o : Obj) : Chg lo hi a (w.alloc o) :=
  h.trans ⟨rfl, rfl, rfl, by simp, fun k hk _ => Below.heap_alloc _ _ _ hk⟩
theorem Chg.drew {lo hi : Nat} {a w : World} (h : Chg lo hi a w) : Chg lo hi a w.drew := ⟨h.os, h.tape, h.output, h.size, h.block⟩
theorem Chg.setCell {lo hi : Nat} {a w : World} (h : Chg lo hi a w) {p : Addr} (hp : (lo ≤ p.block ∧ p.block < hi) ∨ a.heap.size ≤ p.block) (u : Value) : Chg lo hi a (w.setCell p u) :=
  ⟨h.os, h.tape, h.output, by have := h.size; simpa [World.setCell] using this, fun k hk hn => (Below.heap_setCell _ _ _ _ (by omega)).trans (h.block k hk hn)⟩
theorem Chg.cell {lo hi : Nat} {w w' : World} (h : Chg lo hi w w') {p : Addr} (hp : p.block < w.heap.size) (hn : ¬ (lo ≤ p.block ∧ p.block < hi)) : w'.cell? p = w.cell? p := World.cell?_of_block (w := w) (h.block p.block hp hn)
/-- a new world that adds to what was there -/
theorem Chg.then {lo hi : Nat} {a b c : World} (h : Chg lo hi a b) (k : Below a.heap.size b c) : Chg lo hi a c :=
  ⟨k.os.trans h.os, k.tape.trans h.tape, k.output.trans h.output, Nat.le_trans h.size k.size, fun i hi hn => (k.block i hi).trans (h.block i hi hn)⟩

/-- a slice of so many, in a block of its own, with no room behind it -/
def SlX (w : World) (v : Value) (b n : Nat) (t : TypeId) (k : Nat) : Prop := ∃ (o : Option Addr), v = .slice o n n ∧ n ≤ maxLen ∧ (0 < n → o = some ⟨b, 0, none⟩ ∧ ∃ c, w.heap[b]? = some (.cells c t) ∧ c.size = n * k)
theorem SlX.of {w : World} {v : Value} {b n : Nat} {t : TypeId} {k : Nat} (h : SlX w v b n t k) : SlOf v ⟨b, 0, none⟩ n := by
  obtain ⟨o, h1, h2, h3⟩ := h
  exact ⟨o, n, h1, Nat.le_refl _, h2, fun h => (h3 h).1⟩
theorem SlX.onto {w w' : World} {v : Value} {b n : Nat} {t : TypeId} {k : Nat} (h : SlX w v b n t k) (hb : 0 < n → w'.heap[b]? = w.heap[b]?) : SlX w' v b n t k := by
  obtain ⟨o, h1, h2, h3⟩ := h
  exact ⟨o, h1, h2, fun h => ⟨(h3 h).1, by rw [hb h]; exact (h3 h).2⟩⟩
theorem SlX.nil (w : World) (b : Nat) (t : TypeId) (k : Nat) : SlX w (.slice none 0 0) b 0 t k := ⟨none, rfl, Nat.zero_le _, fun h => absurd h (Nat.lt_irrefl 0)⟩

/-- a tree lies in the blocks from lo on, ahead of hi, each list in a block of its own -/
inductive HF (w : World) : Nat → Nat → VT → Value → Value → Prop
  | mk {lo hi : Nat} {k n : Int} {s : ByteArray} {L : List VT} {K : List ByteArray} {V : List VT} {x y : Value} (m bL bM : Nat) (l r : Nat → Nat) (f g p q : Nat → Value)
      (hk : (Lit.int .i64 k).wf = true) (hn : (Lit.int .i64 n).wf = true) (hs : s.size ≤ maxLen)
      (hL : SlX w x bL L.length 27 5) (hM : SlX w y bM V.length 56 6) (hK : K.length = V.length)
      (lom : lo ≤ m) (mhi : m ≤ hi)
      (iL : 0 < L.length → lo ≤ bL ∧ bL < l 0 ∧ l L.length ≤ m) (iM : 0 < V.length → m ≤ bM ∧ bM < r 0 ∧ r V.length ≤ hi)
      (oL : ∀ i j, i ≤ j → j ≤ L.length → l i ≤ l j) (oM : ∀ i j, i ≤ j → j ≤ V.length → r i ≤ r j)
      (cL : ∀ i t, L[i]? = some t → Node w (Addr.add ⟨bL, 0, none⟩ (i * 5)) t (f i) (g i))
      (cK : ∀ i u, K[i]? = some u → w.cell? (Addr.add ⟨bM, 0, none⟩ (i * 6)) = some (.string u) ∧ u.size ≤ maxLen)
      (cM : ∀ i t, V[i]? = some t → Node w (nx (Addr.add ⟨bM, 0, none⟩ (i * 6))) t (p i) (q i))
      (rL : ∀ i t, L[i]? = some t → HF w (l i) (l (i + 1)) t (f i) (g i))
      (rM : ∀ i t, V[i]? = some t → HF w (r i) (r (i + 1)) t (p i) (q i)) : HF w lo hi (.mk k n s L K V) x y
theorem HF.hv {w : World} {lo hi : Nat} {T : VT} {x y : Value} (h : HF w lo hi T x y) : HV w T x y := by
  induction h with
  | mk m bL bM l r f g p q hk hn hs hL hM hK lom mhi iL iM oL oM cL cK cM _ _ ihL ihM =>
    exact .mk _ _ f g p q hk hn hs hL.of hM.of hK cL cK cM ihL ihM
theorem HF.wide {w : World} {lo hi lo' hi' : Nat} {T : VT} {x y : Value} (h : HF w lo hi T x y) (h1 : lo' ≤ lo) (h2 : hi ≤ hi') : HF w lo' hi' T x y := by
  cases h with
  | mk m bL bM l r f g p q hk hn hs hL hM hK lom mhi iL iM oL oM cL cK cM rL rM =>
    exact .mk m bL bM l r f g p q hk hn hs hL hM hK (by omega) (by omega) (fun h => by have := iL h; omega) (fun h => by have := iM h; omega) oL oM cL cK cM rL rM
theorem lt_of_some {α : Type} {L : List α} {i : Nat} {t : α} (h : L[i]? = some t) : i < L.length := (List.getElem?_eq_some_iff.1 h).1
theorem add_block (b i : Nat) : (Addr.add ⟨b, 0, none⟩ i).block = b := by unfold Addr.add; split <;> rfl
theorem Node.eqs {w w' : World} {a : Addr} {T : VT} {x y : Value} (h : Node w a T x y) (hb : w'.heap[a.block]? = w.heap[a.block]?) : Node w' a T x y := by
  have e : ∀ p : Addr, p.block = a.block → w'.cell? p = w.cell? p := fun p hp => World.cell?_of_block (w := w) (by rw [hp]; exact hb)
  exact ⟨(e a rfl).trans h.1, (e ⟨a.block, a.off + 1, none⟩ rfl).trans h.2.1, (e ⟨a.block, a.off + 2, none⟩ rfl).trans h.2.2.1, (e ⟨a.block, a.off + 3, none⟩ rfl).trans h.2.2.2.1, (e ⟨a.block, a.off + 4, none⟩ rfl).trans h.2.2.2.2⟩
theorem HF.onto {w w' : World} {lo hi : Nat} {T : VT} {x y : Value} (h : HF w lo hi T x y) (hb : ∀ k, lo ≤ k → k < hi → w'.heap[k]? = w.heap[k]?) : HF w' lo hi T x y := by
  induction h with
  | mk m bL bM l r f g p q hk hn hs hL hM hK lom mhi iL iM oL oM cL cK cM _ _ ihL ihM =>
    refine .mk m bL bM l r f g p q hk hn hs (hL.onto (fun h => hb _ (iL h).1 (by have h1 := iL h; have h2 := oL 0 _ (Nat.zero_le _) (Nat.le_refl _); omega))) (hM.onto (fun h => hb _ (by have h1 := iM h; omega) (by have h1 := iM h; have h2 := oM 0 _ (Nat.zero_le _) (Nat.le_refl _); omega))) hK lom mhi iL iM oL oM (fun i t h => ?_) (fun i u h => ?_) (fun i t h => ?_) (fun i t h => ?_) (fun i t h => ?_)
    · have hi := lt_of_some h
      have h1 := iL (by omega)
      have h2 := oL 0 _ (Nat.zero_le _) (Nat.le_refl _)
      exact (cL i t h).eqs (by rw [add_block]; exact hb _ (by omega) (by omega))
    · have hi := lt_of_some h
      have h1 := iM (by omega)
      have h2 := oM 0 _ (Nat.zero_le _) (Nat.le_refl _)
      refine ⟨(World.cell?_of_block (w := w) ?_).trans (cK i u h).1, (cK i u h).2⟩
      rw [add_block]; exact hb _ (by omega) (by omega)
    · have hi := lt_of_some h
      have h1 := iM (by omega)
      have h2 := oM 0 _ (Nat.zero_le _) (Nat.le_refl _)
      exact (cM i t h).eqs (by show w'.heap[(Addr.add ⟨bM, 0, none⟩ (i * 6)).block]? = _; rw [show (nx (Addr.add ⟨bM, 0, none⟩ (i * 6))).block = (Addr.add ⟨bM, 0, none⟩ (i * 6)).block from rfl, add_block]; exact hb _ (by omega) (by omega))
    · have hi := lt_of_some h
      have h1 := iL (by omega)
      have h2 := oL 0 i (Nat.zero_le _) (by omega)
      have h3 := oL (i + 1) _ hi (Nat.le_refl _)
      exact ihL i t h (fun k g1 g2 => hb k (by omega) (by omega))
    · have hi := lt_of_some h
      have h1 := iM (by omega)
      have h2 := oM 0 i (Nat.zero_le _) (by omega)
      have h3 := oM (i + 1) _ hi (Nat.le_refl _)
      exact ihM i t h (fun k g1 g2 => hb k (by omega) (by omega))

/-- a list that is handed in -/
def InL (w : World) (L : List VT) (x : Value) : Prop := ∃ (a : Addr) (f g : Nat → Value), SlOf x a L.length ∧ (∀ i t, L[i]? = some t → Node w (a.add (i * 5)) t (f i) (g i)) ∧ (∀ i t, L[i]? = some t → HV w t (f i) (g i))
/-- pairs that are handed in -/
def InM (w : World) (K : List ByteArray) (V : List VT) (y : Value) : Prop := ∃ (b : Addr) (p q : Nat → Value), SlOf y b V.length ∧ K.length = V.length ∧
  (∀ i u, K[i]? = some u → w.cell? (b.add (i * 6)) = some (.string u) ∧ u.size ≤ maxLen) ∧ (∀ i t, V[i]? = some t → Node w (nx (b.add (i * 6))) t (p i) (q i)) ∧ (∀ i t, V[i]? = some t → HV w t (p i) (q i))
theorem InL.onto {w w' : World} {L : List VT} {x : Value} (h : InL w L x) (hb : Below w.heap.size w w') : InL w' L x := by
  obtain ⟨a, f, g, h1, h2, h3⟩ := h
  exact ⟨a, f, g, h1, fun i t h => (h2 i t h).onto hb, fun i t h => (h3 i t h).onto hb⟩
theorem InM.onto {w w' : World} {K : List ByteArray} {V : List VT} {y : Value} (h : InM w K V y) (hb : Below w.heap.size w w') : InM w' K V y := by
  obtain ⟨b, p, q, h1, h2, h3, h4, h5⟩ := h
  exact ⟨b, p, q, h1, h2, fun i u h => ⟨keepCell hb (h3 i u h).1, (h3 i u h).2⟩, fun i t h => (h4 i t h).onto hb, fun i t h => (h5 i t h).onto hb⟩
/-- a list in blocks of its own -/
def LF (w : World) (lo hi : Nat) (L : List VT) (x : Value) : Prop := ∃ (b : Nat) (l : Nat → Nat) (f g : Nat → Value), SlX w x b L.length 27 5 ∧ (0 < L.length → lo ≤ b ∧ b < l 0 ∧ l L.length ≤ hi) ∧ (∀ i j, i ≤ j → j ≤ L.length → l i ≤ l j) ∧
  (∀ i t, L[i]? = some t → Node w (Addr.add ⟨b, 0, none⟩ (i * 5)) t (f i) (g i)) ∧ (∀ i t, L[i]? = some t → HF w (l i) (l (i + 1)) t (f i) (g i))
/-- pairs in blocks of their own -/
def MF (w : World) (lo hi : Nat) (K : List ByteArray) (V : List VT) (y : Value) : Prop := ∃ (b : Nat) (r : Nat → Nat) (p q : Nat → Value), SlX w y b V.length 56 6 ∧ K.length = V.length ∧ (0 < V.length → lo ≤ b ∧ b < r 0 ∧ r V.length ≤ hi) ∧ (∀ i j, i ≤ j → j ≤ V.length → r i ≤ r j) ∧
  (∀ i u, K[i]? = some u → w.cell? (Addr.add ⟨b, 0, none⟩ (i * 6)) = some (.string u) ∧ u.size ≤ maxLen) ∧ (∀ i t, V[i]? = some t → Node w (nx (Addr.add ⟨b, 0, none⟩ (i * 6))) t (p i) (q i)) ∧ (∀ i t, V[i]? = some t → HF w (r i) (r (i + 1)) t (p i) (q i))
theorem hf_of {w : World} {lo m hi : Nat} {k n : Int} {s : ByteArray} {L : List VT} {K : List ByteArray} {V : List VT} {x y : Value} (hk : (Lit.int .i64 k).wf = true) (hn : (Lit.int .i64 n).wf = true) (hs : s.size ≤ maxLen) (h1 : lo ≤ m) (h2 : m ≤ hi) (hL : LF w lo m L x) (hM : MF w m hi K V y) : HF w lo hi (.mk k n s L K V) x y := by
  obtain ⟨b, l, f, g, g1, g2, g3, g4, g5⟩ := hL
  obtain ⟨c, r, p, q, k1, k2, k3, k4, k5, k6, k7⟩ := hM
  exact .mk m b c l r f g p q hk hn hs g1 k1 k2 h1 h2 g2 k3 g3 k4 g4 k5 k6 g5 k7
theorem lf_nil (w : World) (lo hi : Nat) : LF w lo hi [] (.slice none 0 0) :=
  ⟨0, fun _ => 0, fun _ => .nilIface, fun _ => .nilIface, SlX.nil _ _ _ _, fun h => absurd h (by simp), fun _ _ _ _ => Nat.le_refl _, fun i t h => by simp at h, fun i t h => by simp at h⟩
theorem mf_nil (w : World) (lo hi : Nat) : MF w lo hi [] [] (.slice none 0 0) :=
  ⟨0, fun _ => 0, fun _ => .nilIface, fun _ => .nilIface, SlX.nil _ _ _ _, rfl, fun h => absurd h (by simp), fun _ _ _ _ => Nat.le_refl _, fun i t h => by simp at h, fun i t h => by simp at h, fun i t h => by simp at h⟩
theorem LF.wide {w : World} {lo hi lo' hi' : Nat} {L : List VT} {x : Value} (h : LF w lo hi L x) (h1 : lo' ≤ lo) (h2 : hi ≤ hi') : LF w lo' hi' L x := by
  obtain ⟨b, l, f, g, g1, g2, g3, g4, g5⟩ := h
  exact ⟨b, l, f, g, g1, fun h => by have := g2 h; omega, g3, g4, g5⟩
theorem MF.wide {w : World} {lo hi lo' hi' : Nat} {K : List ByteArray} {V : List VT} {y : Value} (h : MF w lo hi K V y) (h1 : lo' ≤ lo) (h2 : hi ≤ hi') : MF w lo' hi' K V y := by
  obtain ⟨b, l, f, g, g1, g0, g2, g3, g4, g5⟩ := h
  exact ⟨b, l, f, g, g1, g0, fun h => by have := g2 h; omega, g3, g4, g5⟩
theorem LF.onto {w w' : World} {lo hi : Nat} {L : List VT} {x : Value} (h : LF w lo hi L x) (hb : ∀ k, lo ≤ k → k < hi → w'.heap[k]? = w.heap[k]?) : LF w' lo hi L x := by
  obtain ⟨b, l, f, g, g1, g2, g3, g4, g5⟩ := h
  refine ⟨b, l, f, g, g1.onto (fun h => hb _ (g2 h).1 (by have h1 := g2 h; have h2 := g3 0 _ (Nat.zero_le _) (Nat.le_refl _); omega)), g2, g3, fun i t h => ?_, fun i t h => ?_⟩
  · have hi := lt_of_some h
    have h1 := g2 (by omega)
    have h2 := g3 0 _ (Nat.zero_le _) (Nat.le_refl _)
    exact (g4 i t h).eqs (by rw [add_block]; exact hb _ (by omega) (by omega))
  · have hi := lt_of_some h
    have h1 := g2 (by omega)
    have h2 := g3 0 i (Nat.zero_le _) (by omega)
    have h3 := g3 (i + 1) _ hi (Nat.le_refl _)
    exact (g5 i t h).onto (fun k g1 g2 => hb k (by omega) (by omega))
theorem MF.onto {w w' : World} {lo hi : Nat} {K : List ByteArray} {V : List VT} {y : Value} (h : MF w lo hi K V y) (hb : ∀ k, lo ≤ k → k < hi → w'.heap[k]? = w.heap[k]?) : MF w' lo hi K V y := by
  obtain ⟨b, l, f, g, g1, g0, g2, g3, g6, g4, g5⟩ := h
  refine ⟨b, l, f, g, g1.onto (fun h => hb _ (g2 h).1 (by have h1 := g2 h; have h2 := g3 0 _ (Nat.zero_le _) (Nat.le_refl _); omega)), g0, g2, g3, fun i u h => ?_, fun i t h => ?_, fun i t h => ?_⟩
  · have hi := lt_of_some h
    have h1 := g2 (by omega)
    have h2 := g3 0 _ (Nat.zero_le _) (Nat.le_refl _)
    refine ⟨(World.cell?_of_block (w := w) ?_).trans (g6 i u h).1, (g6 i u h).2⟩
    rw [add_block]; exact hb _ (by omega) (by omega)
  · have hi := lt_of_some h
    have h1 := g2 (by omega)
    have h2 := g3 0 _ (Nat.zero_le _) (Nat.le_refl _)
    exact (g4 i t h).eqs (by rw [show (nx (Addr.add ⟨b, 0, none⟩ (i * 6))).block = (Addr.add ⟨b, 0, none⟩ (i * 6)).block from rfl, add_block]; exact hb _ (by omega) (by omega))
  · have hi := lt_of_some h
    have h1 := g2 (by omega)
    have h2 := g3 0 i (Nat.zero_le _) (by omega)
    have h3 := g3 (i + 1) _ hi (Nat.le_refl _)
    exact (g5 i t h).onto (fun k g1 g2 => hb k (by omega) (by omega))
theorem HF.lists {w : World} {lo hi : Nat} {T : VT} {x y : Value} (h : HF w lo hi T x y) : ∃ m, lo ≤ m ∧ m ≤ hi ∧ LF w lo m T.ls x ∧ MF w m hi T.ks T.vs y := by
  cases h with
  | mk m bL bM l r f g p q hk hn hs hL hM hK lom mhi iL iM oL oM cL cK cM rL rM =>
    exact ⟨m, lom, mhi, ⟨bL, l, f, g, hL, iL, oL, cL, rL⟩, ⟨bM, r, p, q, hM, hK, iM, oM, cK, cM, rM⟩⟩
theorem vset_bel {w a : World} {ad : Addr} {v : Value} (h : Below w.heap.size w a) (hb : w.heap.size ≤ ad.block) : Below w.heap.size w (a.setCell ad v) := h.setCell hb v
theorem valloc_bel {w a : World} (h : Below w.heap.size w a) (o : Obj) : Below w.heap.size w (a.alloc o) := h.alloc h.size _
theorem vonto {w a b : World} (h : Below w.heap.size w a) (k : Below a.heap.size a b) : Below w.heap.size w b := h.trans (k.mono h.size)
theorem LF.slice {w : World} {lo hi : Nat} {L : List VT} {x : Value} (h : LF w lo hi L x) : ∃ o n c, x = .slice o n c := by
  obtain ⟨b, l, f, g, ⟨o, rfl, -⟩, -⟩ := h
  exact ⟨_, _, _, rfl⟩
theorem MF.slice {w : World} {lo hi : Nat} {K : List ByteArray} {V : List VT} {x : Value} (h : MF w lo hi K V x) : ∃ o n c, x = .slice o n c := by
  obtain ⟨b, l, f, g, ⟨o, rfl, -⟩, -⟩ := h
  exact ⟨_, _, _, rfl⟩
end Go.Proofs.YtlapefhnbbcmmaaGreatDoor
namespace Go.Proofs.YtlapefhnbbcmmaaGreatDoor
open Go.RowKit

theorem box_cell (w wr : World) (c0 c1 c2 c3 c4 : Value) (t : TypeId) (h : Below (w.heap.size + 1) (w.alloc (.cells #[c0, c1, c2, c3, c4] t)) wr) (j : Nat) (u : Value) (hj : [c0, c1, c2, c3, c4][j]? = some u) : wr.cell? ⟨w.heap.size, j, none⟩ = some u := by
  rw [h.cell (show w.heap.size < w.heap.size + 1 by omega)]
  have := new_cells w [c0, c1, c2, c3, c4] t j u hj
  rw [← this]
  by_cases h0 : j = 0
  · subst h0; simp [Addr.add]
  · simp [Addr.add, h0]
mutual
def hgT : VT → Nat
  | .mk _ _ _ L _ V => 1 + max (hgL L) (hgL V)
def hgL : List VT → Nat
  | [] => 0
  | t :: r => max (hgT t) (hgL r)
end
mutual
theorem hg_sz : ∀ T : VT, hgT T ≤ szT T
  | .mk _ _ _ L _ V => by have h1 := hgL_sz L; have h2 := hgL_sz V; simp only [hgT, szT]; omega
theorem hgL_sz : ∀ L : List VT, hgL L ≤ szL L
  | [] => by simp [hgL, szL]
  | t :: r => by have h1 := hg_sz t; have h2 := hgL_sz r; simp only [hgL, szL]; omega
end
end Go.Proofs.YtlapefhnbbcmmaaGreatDoor
namespace Go.Proofs.YtlapefhnbbcmmaaGreatDoor
open Go.RowKit

/-- a block of so many cells, none of them frozen -/
def Row (w : World) (b : Nat) (t : TypeId) (m : Nat) : Prop := ∃ c : Array Value, w.heap[b]? = some (.cells c t (0, 0)) ∧ c.size = m
theorem Row.cell {w : World} {b m : Nat} {t : TypeId} (h : Row w b t m) {o : Nat} (ho : o < m) : ∃ v, w.cell? ⟨b, o, none⟩ = some v := by
  obtain ⟨c, hc, rfl⟩ := h
  exact ⟨c[o], by simp [World.cell?, hc, ho]⟩
theorem Row.frozen {w : World} {b m : Nat} {t : TypeId} (h : Row w b t m) (o : Nat) : w.frozen? ⟨b, o, none⟩ = false := by
  obtain ⟨c, hc, rfl⟩ := h
  simp [World.frozen?, hc]
theorem Row.onto {w w' : World} {b m : Nat} {t : TypeId} (h : Row w b t m) (hb : w'.heap[b]? = w.heap[b]?) : Row w' b t m := by
  obtain ⟨c, hc, rfl⟩ := h
  exact ⟨c, hb.trans hc, rfl⟩
theorem Row.new (w : World) (c : Array Value) (t : TypeId) : Row (w.alloc (.cells c t)) w.heap.size t c.size := ⟨c, by show (w.heap.push _)[w.heap.size]? = _; simp, rfl⟩
theorem Row.lt {w : World} {b m : Nat} {t : TypeId} (h : Row w b t m) : b < w.heap.size := by
  obtain ⟨c, hc, rfl⟩ := h
  exact (Array.getElem?_eq_some_iff.1 hc).1
def put5 (w : World) (b o : Nat) (v0 v1 v2 v3 v4 : Value) : World := ((((w.setCell ⟨b, o, none⟩ v0).setCell ⟨b, o + 1, none⟩ v1).setCell ⟨b, o + 2, none⟩ v2).setCell ⟨b, o + 3, none⟩ v3).setCell ⟨b, o + 4, none⟩ v4
theorem add_at (b i : Nat) : Addr.add ⟨b, 0, none⟩ i = ⟨b, i, none⟩ := by
  simp only [Addr.add, Nat.zero_add]; split
  · next h0 => rw [h0]
  · rfl
end Go.Proofs.YtlapefhnbbcmmaaGreatDoor
namespace Go.Proofs.YtlapefhnbbcmmaaGreatDoor
open Go.RowKit

/-- the value of a key in two lists, or none -/
def findK (key : ByteArray) : List ByteArray → List VT → Option VT
  | c :: K, t :: V => if c.data.toList = key.data.toList then some t else findK key K V
  | _, _ => none
def getO (T : VT) (key : ByteArray) : Option VT := if T.kd = 6 then findK key T.ks T.vs else none
def zeroT : VT := .mk 0 0 ⟨#[]⟩ [] [] []
end Go.Proofs.YtlapefhnbbcmmaaGreatDoor
namespace Go.Proofs.YtlapefhnbbcmmaaGreatDoor
open Go.RowKit

/-- two texts alike; loosely: two numbers alike -/
def strB (lo : Bool) (k : Int) (s t : ByteArray) : Bool := decide (s = t) || (lo && decide (k = 3) && decide (cmpI s.data.toList t.data.toList = 0))
mutual
def sameT (lo : Bool) : VT → VT → Bool
  | .mk k n s L K V, T => decide (k = T.kd ∧ n = T.nm ∧ L.length = T.ls.length ∧ V.length = T.vs.length) && strB lo k s T.st && sameL lo L T.ls && decide (K = T.ks) && sameL lo V T.vs
def sameL (lo : Bool) : List VT → List VT → Bool
  | [], _ => true
  | _ :: _, [] => false
  | t :: r, t' :: r' => sameT lo t t' && sameL lo r r'
end
theorem sameL_get (lo : Bool) : ∀ (L M : List VT), L.length = M.length → (sameL lo L M = true ↔ ∀ (i : Nat) (t u : VT), L[i]? = some t → M[i]? = some u → sameT lo t u = true)
  | [], M, _ => by simp [sameL]
  | a :: r, [], h => by simp at h
  | a :: r, b :: r', h => by
    simp only [sameL, Bool.and_eq_true]
    rw [sameL_get lo r r' (by simpa using h)]
    constructor
    · rintro ⟨h1, h2⟩ i t u hi hj
      cases i with
      | zero => simp at hi hj; subst hi hj; exact h1
      | succ i => simp at hi hj; exact h2 i t u hi hj
    · intro g
      exact ⟨g 0 a b rfl rfl, fun i t u hi hj => g (i + 1) t u (by simpa using hi) (by simpa using hj)⟩
theorem box2_cell (w wr : World) (c0 c1 c2 c3 c4 : Value) (t : TypeId) (o : Obj) (h : Below (w.heap.size + 2) ((w.alloc (.cells #[c0, c1, c2, c3, c4] t)).alloc o) wr) (j : Nat) (u : Value) (hj : [c0, c1, c2, c3, c4][j]? = some u) : wr.cell? ⟨w.heap.size, j, none⟩ = some u := by
  have hb : Below (w.heap.size + 1) (w.alloc (.cells #[c0, c1, c2, c3, c4] t)) wr := ((Below.refl _ _).alloc (by simp) _).trans (h.mono (by omega))
  exact box_cell w wr c0 c1 c2 c3 c4 t hb j u hj
theorem box2_next (w wr : World) (c0 c1 c2 c3 c4 : Value) (t : TypeId) (o : Obj) (h : Below (w.heap.size + 2) ((w.alloc o).alloc (.cells #[c0, c1, c2, c3, c4] t)) wr) (j : Nat) (u : Value) (hj : [c0, c1, c2, c3, c4][j]? = some u) : wr.cell? ⟨w.heap.size + 1, j, none⟩ = some u := by
  have e : (w.alloc o).heap.size = w.heap.size + 1 := by simp
  have := box_cell (w.alloc o) wr c0 c1 c2 c3 c4 t (by rw [e]; exact h) j u hj
  rwa [e] at this
theorem str_ne (s t : ByteArray) (h : ¬ s = t) : (s.toList == t.toList) = false := by
  rw [beq_eq_false_iff_ne, Lib.toList_data, Lib.toList_data]
  intro hc; apply h; rw [mkS_of s _ rfl, mkS_of t _ rfl, hc]
theorem HV.parts {w : World} {T : VT} {x y : Value} (h : HV w T x y) : ∃ (a b : Addr) (f g p q : Nat → Value) (oL oM : Option Addr) (cL cM : Nat),
    x = .slice oL T.ls.length cL ∧ y = .slice oM T.vs.length cM ∧ T.ls.length ≤ 2 ^ 63 - 1 ∧ T.vs.length ≤ 2 ^ 63 - 1 ∧ (0 < T.ls.length → oL = some a) ∧ (0 < T.vs.length → oM = some b) ∧ T.ks.length = T.vs.length ∧ T.st.size ≤ maxLen ∧
    T.ls.length ≤ cL ∧ T.vs.length ≤ cM ∧
    (∀ i t, T.ls[i]? = some t → Node w (a.add (i * 5)) t (f i) (g i)) ∧ (∀ i u, T.ks[i]? = some u → w.cell? (b.add (i * 6)) = some (.string u) ∧ u.size ≤ maxLen) ∧ (∀ i t, T.vs[i]? = some t → Node w (nx (b.add (i * 6))) t (p i) (q i)) ∧
    (∀ i t, T.ls[i]? = some t → HV w t (f i) (g i)) ∧ (∀ i t, T.vs[i]? = some t → HV w t (p i) (q i)) ∧ (Lit.int .i64 T.kd).wf = true ∧ (Lit.int .i64 T.nm).wf = true := by
  cases h with
  | mk a b f g p q hk hn hs hL hM hK cL cK cM rL rM =>
    obtain ⟨oL, capL, rfl, hL1, hL2, hL3⟩ := hL
    obtain ⟨oM, capM, rfl, hM1, hM2, hM3⟩ := hM
    unfold maxLen at hL2 hM2
    exact ⟨a, b, f, g, p, q, oL, oM, capL, capM, rfl, rfl, Nat.le_trans hL1 hL2, Nat.le_trans hM1 hM2, hL3, hM3, hK, hs, hL1, hM1, cL, cK, cM, rL, rM, hk, hn⟩
theorem sameT_eq (lo : Bool) (T U : VT) : sameT lo T U = (decide (T.kd = U.kd ∧ T.nm = U.nm ∧ T.ls.length = U.ls.length ∧ T.vs.length = U.vs.length) && strB lo T.kd T.st U.st && sameL lo T.ls U.ls && decide (T.ks = U.ks) && sameL lo T.vs U.vs) := by
  cases T; rw [sameT]; rfl
end Go.Proofs.YtlapefhnbbcmmaaGreatDoor
/- value's judges of texts, walked: textError, goodStamp, goodNum. -/
/- value.keysError, walked. -/
/- value.goodKeys, walked. -/
namespace Go.Proofs.YtlapefhnbbcmmaaGreatDoor
open Go.RowKit

/-- what is wrong with a text -/
def teI (s : ByteArray) : Int := if pos s.data.toList (vlk s.data.toList) = s.size then (if s.size > 4096 then 2 else 0) else 3
set_option maxRecDepth 100000 in
set_option maxHeartbeats 400000 in
theorem terr_any (s : ByteArray) (w : World) (hs : s.size ≤ maxLen) :
    Calls Tryz.prog 96 #[.string s] w fun e w' => e = .returned (.int .i64 (teI s)) ∧ w' = w := by
  have va := hid (fun w => valid_any s w hs)
  have H := hid (show teI s = if pos s.data.toList (vlk s.data.toList) = s.size then (if s.size > 4096 then 2 else 0) else 3 from rfl)
  unfold maxLen at hs
  generalize teI s = r at H ⊢
  generalize pos s.data.toList (vlk s.data.toList) = p at va H
  by_cases h1 : p = s.size
  · rw [if_pos h1, decide_eq_true h1] at *
    by_cases h2 : s.size > 4096
    · rw [if_pos h2] at H
      clear h1
      go_enter Tryz.func96, Tryz.ntmps96
      go_wp2_with (go_at_call 123; go_must (refine (va.out _).mono ?_; rintro e w1 ⟨rfl, rfl⟩))
      go_ret
      exact ⟨ret_int H.out.symm, rfl⟩
    · rw [if_neg h2] at H
      clear h1
      go_enter Tryz.func96, Tryz.ntmps96
      go_wp2_with (go_at_call 123; go_must (refine (va.out _).mono ?_; rintro e w1 ⟨rfl, rfl⟩))
      go_ret
      exact ⟨ret_int H.out.symm, rfl⟩
  · rw [if_neg h1] at H
    rw [decide_eq_false h1] at va
    clear h1
    go_enter Tryz.func96, Tryz.ntmps96
    go_wp2_with (go_at_call 123; go_must (refine (va.out _).mono ?_; rintro e w1 ⟨rfl, rfl⟩))
    go_ret
    exact ⟨ret_int H.out.symm, rfl⟩
set_option maxRecDepth 100000 in
set_option maxHeartbeats 400000 in
theorem gstamp_any (s : ByteArray) (w : World) (hs : s.size ≤ maxLen) :
    Calls Tryz.prog 47 #[.string s] w fun e w' => e = .returned (.bool (stampB s)) ∧ Below w.heap.size w w' := by
  unfold maxLen at hs
  have HZ := hid (size_list s)
  by_cases h1 : s.size < 1
  · have H := hid (show stampB s = false by unfold stampB; rw [decide_eq_false (by omega)]; rfl)
    go_enter Tryz.func47, Tryz.ntmps47
    go_wp2_with fail
    go_ret
    exact ⟨ret_bool H.out.symm, Below.refl _ _⟩
  · by_cases h2 : s.size > 64
    · have H := hid (show stampB s = false by unfold stampB; rw [decide_eq_false (show ¬ s.size ≤ 64 by omega)]; simp)
      go_enter Tryz.func47, Tryz.ntmps47
      go_wp2_with fail
      go_ret
      exact ⟨ret_bool H.out.symm, Below.refl _ _⟩
    · have H := hid (show stampB s = s.data.toList.all (fun b => decide (32 ≤ b.toNat) && decide (b.toNat ≤ 126)) by
        unfold stampB; rw [decide_eq_true (show 1 ≤ s.size by omega), decide_eq_true (show s.size ≤ 64 by omega)]; rfl)
      have hcv := run_bytes_of_string (P := Tryz.prog) w 9 93 5 s Tryz.underlying9 Tryz.underlying93 Tryz.underlying5
      go_enter Tryz.func47, Tryz.ntmps47
      go_upto_region 3 with fail
      go_cut [14, 15, 16] from 8 (fun a b c wx => ∃ cap, a = .slice (some ⟨w.heap.size, 0, none⟩) s.size cap ∧ b = .int .i64 s.size ∧ c = .int .i64 0 ∧ s.size ≤ cap ∧ Hid (∀ k (h : k < s.size), wx.cell? ⟨w.heap.size, k, none⟩ = some (.int .u8 (s[k].toNat : Int))) ∧ Hid (Below w.heap.size w wx))
      case first =>
        go_wp2_with fail
        go_meet
        exact ⟨_, rfl, rfl, rfl, grownCap_ge _ _ _ _, (show ∀ k (h : k < s.size), _ = _ from fun k hk => brow_at s k (w.drewN 1) _ _ _ hk), (Below.refl _ _).drew.alloc (by simp) _⟩
      case rest =>
      obtain ⟨cap, rfl, rfl, rfl, hcap, HC, HW⟩ := hcut
      clear hcv
      go_wp2_with fail
      go_loop [16] (fun i => ∃ j : Nat, j ≤ s.size ∧ i = .int .i64 j ∧ Hid (∀ k (h : k < s.size), k < j → 32 ≤ s[k].toNat ∧ s[k].toNat ≤ 126)) (fun i => s.size - (intOf i).toNat)
      case atStart => exact ⟨0, Nat.zero_le _, rfl, fun k h hk => absurd hk (by omega)⟩
      case round =>
        obtain ⟨j, hj, rfl, HJ⟩ := hrel
        by_cases hlt : j < s.size
        · have HG := hid (getD_at s j hlt)
          have hcell := HC.out j hlt
          by_cases h3 : s[j].toNat < 32
          · have HF := hid (show stampB s = false by
              rw [H.out, Bool.eq_false_iff]; intro hc
              have := List.all_eq_true.1 hc s[j] (by rw [← HG.out, List.getD, List.getElem?_eq_getElem (by rw [HZ.out]; exact hlt)]; exact List.getElem_mem _)
              simp at this; omega)
            go_wp2_with fail
            go_ret
            exact ⟨ret_bool HF.out.symm, HW.out⟩
          · by_cases h4 : s[j].toNat > 126
            · have HF := hid (show stampB s = false by
                rw [H.out, Bool.eq_false_iff]; intro hc
                have := List.all_eq_true.1 hc s[j] (by rw [← HG.out, List.getD, List.getElem?_eq_getElem (by rw [HZ.out]; exact hlt)]; exact List.getElem_mem _)
                simp at this; omega)
              go_wp2_with fail
              go_ret
              exact ⟨ret_bool HF.out.symm, HW.out⟩
            · go_wp2_with fail
              go_round
              case rel => exact ⟨j + 1, hlt, val_int (by omega), fun k h hk => by
                by_cases e : k = j
                · subst e; exact ⟨by omega, by omega⟩
                · exact HJ.out k h (by omega)⟩
              case measure => simp [intOf]; omega
        · have HF := hid (show stampB s = true by
            rw [H.out]; refine List.all_eq_true.2 fun b hb => ?_
            obtain ⟨k, hk, rfl⟩ := List.getElem_of_mem hb
            have hk' : k < s.size := by rw [← HZ.out]; exact hk
            have := HJ.out k hk' (by omega)
            simp; exact this)
          go_wp2_with fail
          go_ret
          exact ⟨ret_bool HF.out.symm, HW.out⟩
end Go.Proofs.YtlapefhnbbcmmaaGreatDoor
namespace Go.Proofs.YtlapefhnbbcmmaaGreatDoor
open Go.RowKit

def keyAt (K : List ByteArray) (i : Nat) : ByteArray := K.getD i ⟨#[]⟩
/-- two keys beside each other are one -/
def adjB (K : List ByteArray) : Bool := (List.range (K.length - 1)).any fun i => decide ((keyAt K i).data.toList = (keyAt K (i + 1)).data.toList)
def bad3 (K : List ByteArray) : Bool := K.any fun c => decide (teI c = 3)
def bad2 (K : List ByteArray) : Bool := K.any fun c => decide (teI c = 2)
/-- what is wrong with keys in order -/
def keI (K : List ByteArray) : Int := if adjB K then 5 else if bad3 K then 3 else if bad2 K then 2 else 0
end Go.Proofs.YtlapefhnbbcmmaaGreatDoor
namespace Go.Proofs.YtlapefhnbbcmmaaGreatDoor
open Go.RowKit

/-- a map's keys may be, and rise -/
def keysB (K : List ByteArray) : Bool := decide (∀ i < K.length, strOkB (K.getD i ⟨#[]⟩) = true ∧ (0 < i → ltB (K.getD (i - 1) ⟨#[]⟩).data.toList (K.getD i ⟨#[]⟩).data.toList = true))
theorem getD_some {K : List ByteArray} {i : Nat} {c : ByteArray} (h : K[i]? = some c) : K.getD i ⟨#[]⟩ = c := by rw [List.getD, h]; rfl
end Go.Proofs.YtlapefhnbbcmmaaGreatDoor
/- value.copyList, walked over what Copy does to each part. -/
/- value.copyPairs, walked over what Copy does to each part. -/
/- value.Copy, walked: another tree, the same, in blocks of its own. -/
namespace Go.Proofs.YtlapefhnbbcmmaaGreatDoor
open Go.RowKit

/-- what has been copied so far -/
def Part (w : World) (b : Nat) (L : List VT) (j : Nat) : Prop := ∃ (l : Nat → Nat) (f g : Nat → Value), b < l 0 ∧ l j ≤ w.heap.size ∧ (∀ i k, i ≤ k → k ≤ j → l i ≤ l k) ∧
  (∀ i t, i < j → L[i]? = some t → Node w ⟨b, i * 5, none⟩ t (f i) (g i)) ∧ (∀ i t, i < j → L[i]? = some t → HF w (l i) (l (i + 1)) t (f i) (g i))
end Go.Proofs.YtlapefhnbbcmmaaGreatDoor
namespace Go.Proofs.YtlapefhnbbcmmaaGreatDoor
open Go.RowKit

def put6 (w : World) (b o : Nat) (v0 v1 v2 v3 v4 v5 : Value) : World := (((((w.setCell ⟨b, o, none⟩ v0).setCell ⟨b, o + 1, none⟩ v1).setCell ⟨b, o + 2, none⟩ v2).setCell ⟨b, o + 3, none⟩ v3).setCell ⟨b, o + 4, none⟩ v4).setCell ⟨b, o + 5, none⟩ v5
/-- the pairs that have been copied so far -/
def PartM (w : World) (b : Nat) (K : List ByteArray) (V : List VT) (j : Nat) : Prop := ∃ (l : Nat → Nat) (f g : Nat → Value), b < l 0 ∧ l j ≤ w.heap.size ∧ (∀ i k, i ≤ k → k ≤ j → l i ≤ l k) ∧
  (∀ i u, i < j → K[i]? = some u → w.cell? ⟨b, i * 6, none⟩ = some (.string u)) ∧
  (∀ i t, i < j → V[i]? = some t → Node w ⟨b, i * 6 + 1, none⟩ t (f i) (g i)) ∧ (∀ i t, i < j → V[i]? = some t → HF w (l i) (l (i + 1)) t (f i) (g i))
/-- a pair's box -/
def PBox (W : World) (B : Nat) (c : ByteArray) (t : VT) (x y : Value) (w' : World) : Prop := w'.cell? ⟨B, 0, none⟩ = some (.string c) ∧ w'.cell? ⟨B, 1, none⟩ = some (.int .i64 t.kd) ∧ w'.cell? ⟨B, 2, none⟩ = some (.int .i64 t.nm) ∧ w'.cell? ⟨B, 3, none⟩ = some (.string t.st) ∧ w'.cell? ⟨B, 4, none⟩ = some x ∧ w'.cell? ⟨B, 5, none⟩ = some y ∧ Below W.heap.size W w'
end Go.Proofs.YtlapefhnbbcmmaaGreatDoor
namespace Go.Proofs.YtlapefhnbbcmmaaGreatDoor
open Go.RowKit

end Go.Proofs.YtlapefhnbbcmmaaGreatDoor
