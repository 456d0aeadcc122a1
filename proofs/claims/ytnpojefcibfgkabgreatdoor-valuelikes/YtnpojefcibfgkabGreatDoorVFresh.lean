/- Trees that lie in blocks of their own, and changes that keep to some blocks. -/
import Derived.Test.YtnpojefcibfgkabGreatDoorVTree
namespace Go.Proofs.YtnpojefcibfgkabGreatDoor
open Go.RowKit

/-- the blocks outside lo to hi are as they were -/
structure Chg (lo hi : Nat) (w w' : World) : Prop where
  os : w'.os = w.os
  tape : w'.tape = w.tape
  output : w'.output = w.output
  size : w.heap.size ≤ w'.heap.size
  block : ∀ k, k < w.heap.size → ¬ (lo ≤ k ∧ k < hi) → w'.heap[k]? = w.heap[k]?
theorem Chg.refl (lo hi : Nat) (w : World) : Chg lo hi w w := ⟨rfl, rfl, rfl, Nat.le_refl _, fun _ _ _ => rfl⟩
theorem Chg.trans {lo hi : Nat} {a b c : World} (h : Chg lo hi a b) (k : Chg lo hi b c) : Chg lo hi a c :=
  ⟨k.os.trans h.os, k.tape.trans h.tape, k.output.trans h.output, Nat.le_trans h.size k.size, fun i hi hn => (k.block i (Nat.lt_of_lt_of_le hi h.size) hn).trans (h.block i hi hn)⟩
theorem Chg.wide {lo hi lo' hi' : Nat} {a b : World} (h : Chg lo hi a b) (h1 : lo' ≤ lo) (h2 : hi ≤ hi') : Chg lo' hi' a b :=
  ⟨h.os, h.tape, h.output, h.size, fun i hi hn => h.block i hi (by omega)⟩
theorem Chg.of {lo hi : Nat} {a b : World} (h : Below a.heap.size a b) : Chg lo hi a b := ⟨h.os, h.tape, h.output, h.size, fun i hi _ => h.block i hi⟩
/-- a change among blocks that were not there is none -/
theorem Chg.new {lo hi : Nat} {a b : World} (h : Chg lo hi a b) (hn : a.heap.size ≤ lo) : Below a.heap.size a b := ⟨h.os, h.tape, h.output, h.size, fun i hi => h.block i hi (by omega)⟩
theorem Chg.below {lo hi : Nat} {a b : World} (h : Chg lo hi a b) {B : Nat} (h1 : B ≤ lo) (h2 : B ≤ a.heap.size) : Below B a b := ⟨h.os, h.tape, h.output, h.size, fun i hi => h.block i (by omega) (by omega)⟩
theorem Chg.alloc {lo hi : Nat} {a w : World} (h : Chg lo hi a w) (o : Obj) : Chg lo hi a (w.alloc o) :=
  h.trans ⟨rfl, rfl, rfl, by simp, fun k hk _ => Below.heap_alloc _ _ _ hk⟩
theorem Chg.drew {lo hi : Nat} {a w : World} (h : Chg lo hi a w) : Chg lo hi a w.drew := ⟨h.os, h.tape, h.output, h.size, h.block⟩
theorem Chg.setCell {lo hi : Nat} {a w : World} (h : Chg lo hi a w) {p : Addr} (hp : (lo ≤ p.block ∧ p.block < hi) ∨ a.heap.size ≤ p.block) (u : Value) : Chg lo hi a (w.setCell p u) :=
  ⟨h.os, h.tape, h.output, by have := h.size; simpa [World.setCell] using this, fun k hk hn => (Below.heap_setCell _ _ _ _ (by omega)).trans (h.block k hk hn)⟩
theorem Chg.cell {lo hi : Nat} {w w' : World} (h : Chg lo hi w w') {p : Addr} (hp : p.block < w.heap.size) (hn : ¬ (lo ≤ p.block ∧ p.block < hi)) : w'.cell? p = w.cell? p := World.cell?_of_block (w := w) (h.block p.block hp hn)
/-- a new world that adds to what was there -/
theorem Chg.then {lo hi : Nat} {a b c : World} (h : Chg lo hi a b) (k : Below a.heap.size b c) : Chg lo hi a c :=
  ⟨k.os.trans h.os, k.tape.trans h.tape, k.output.trans h.output, Nat.le_trans h.size k.size, fun i hi hn => (k.block i hi).trans (h.block i hi hn)⟩

/-- a tree lies in the blocks from lo on, ahead of hi, each list in a block of its own -/
inductive HF (w : World) : Nat → Nat → VT → Value → Value → Prop
  | mk {lo hi : Nat} {k n : Int} {s : ByteArray} {L : List VT} {K : List ByteArray} {V : List VT} {x y : Value} (m bL bM : Nat) (l r : Nat → Nat) (f g p q : Nat → Value)
      (hk : (Lit.int .i64 k).wf = true) (hn : (Lit.int .i64 n).wf = true) (hs : s.size ≤ maxLen)
      (hL : SlOf x ⟨bL, 0, none⟩ L.length) (hM : SlOf y ⟨bM, 0, none⟩ V.length) (hK : K.length = V.length)
      (lom : lo ≤ m) (mhi : m ≤ hi)
      (iL : 0 < L.length → lo ≤ bL ∧ bL < l 0 ∧ l L.length ≤ m) (iM : 0 < V.length → m ≤ bM ∧ bM < r 0 ∧ r V.length ≤ hi)
      (oL : ∀ i j, i ≤ j → j ≤ L.length → l i ≤ l j) (oM : ∀ i j, i ≤ j → j ≤ V.length → r i ≤ r j)
      (cL : ∀ i t, L[i]? = some t → Node w (Addr.add ⟨bL, 0, none⟩ (i * 5)) t (f i) (g i))
      (cK : ∀ i u, K[i]? = some u → w.cell? (Addr.add ⟨bM, 0, none⟩ (i * 6)) = some (.string u) ∧ u.size ≤ maxLen)
      (cM : ∀ i t, V[i]? = some t → Node w (nx (Addr.add ⟨bM, 0, none⟩ (i * 6))) t (p i) (q i))
      (rL : ∀ i t, L[i]? = some t → HF w (l i) (l (i + 1)) t (f i) (g i))
      (rM : ∀ i t, V[i]? = some t → HF w (r i) (r (i + 1)) t (p i) (q i)) : HF w lo hi (.mk k n s L K V) x y
theorem HF.hv {w : World} {lo hi : Nat} {T : VT} {x y : Value} (h : HF w lo hi T x y) : HV w T x y := by
  induction h with
  | mk m bL bM l r f g p q hk hn hs hL hM hK lom mhi iL iM oL oM cL cK cM _ _ ihL ihM =>
    exact .mk _ _ f g p q hk hn hs hL hM hK cL cK cM ihL ihM
theorem HF.wide {w : World} {lo hi lo' hi' : Nat} {T : VT} {x y : Value} (h : HF w lo hi T x y) (h1 : lo' ≤ lo) (h2 : hi ≤ hi') : HF w lo' hi' T x y := by
  cases h with
  | mk m bL bM l r f g p q hk hn hs hL hM hK lom mhi iL iM oL oM cL cK cM rL rM =>
    exact .mk m bL bM l r f g p q hk hn hs hL hM hK (by omega) (by omega) (fun h => by have := iL h; omega) (fun h => by have := iM h; omega) oL oM cL cK cM rL rM
theorem lt_of_some {α : Type} {L : List α} {i : Nat} {t : α} (h : L[i]? = some t) : i < L.length := (List.getElem?_eq_some_iff.1 h).1
theorem add_block (b i : Nat) : (Addr.add ⟨b, 0, none⟩ i).block = b := by unfold Addr.add; split <;> rfl
theorem Node.eqs {w w' : World} {a : Addr} {T : VT} {x y : Value} (h : Node w a T x y) (hb : w'.heap[a.block]? = w.heap[a.block]?) : Node w' a T x y := by
  have e : ∀ p : Addr, p.block = a.block → w'.cell? p = w.cell? p := fun p hp => World.cell?_of_block (w := w) (by rw [hp]; exact hb)
  exact ⟨(e a rfl).trans h.1, (e ⟨a.block, a.off + 1, none⟩ rfl).trans h.2.1, (e ⟨a.block, a.off + 2, none⟩ rfl).trans h.2.2.1, (e ⟨a.block, a.off + 3, none⟩ rfl).trans h.2.2.2.1, (e ⟨a.block, a.off + 4, none⟩ rfl).trans h.2.2.2.2⟩
theorem HF.onto {w w' : World} {lo hi : Nat} {T : VT} {x y : Value} (h : HF w lo hi T x y) (hb : ∀ k, lo ≤ k → k < hi → w'.heap[k]? = w.heap[k]?) : HF w' lo hi T x y := by
  induction h with
  | mk m bL bM l r f g p q hk hn hs hL hM hK lom mhi iL iM oL oM cL cK cM _ _ ihL ihM =>
    refine .mk m bL bM l r f g p q hk hn hs hL hM hK lom mhi iL iM oL oM (fun i t h => ?_) (fun i u h => ?_) (fun i t h => ?_) (fun i t h => ?_) (fun i t h => ?_)
    · have hi := lt_of_some h
      have h1 := iL (by omega)
      have h2 := oL 0 _ (Nat.zero_le _) (Nat.le_refl _)
      exact (cL i t h).eqs (by rw [add_block]; exact hb _ (by omega) (by omega))
    · have hi := lt_of_some h
      have h1 := iM (by omega)
      have h2 := oM 0 _ (Nat.zero_le _) (Nat.le_refl _)
      refine ⟨(World.cell?_of_block (w := w) ?_).trans (cK i u h).1, (cK i u h).2⟩
      rw [add_block]; exact hb _ (by omega) (by omega)
    · have hi := lt_of_some h
      have h1 := iM (by omega)
      have h2 := oM 0 _ (Nat.zero_le _) (Nat.le_refl _)
      exact (cM i t h).eqs (by show w'.heap[(Addr.add ⟨bM, 0, none⟩ (i * 6)).block]? = _; rw [show (nx (Addr.add ⟨bM, 0, none⟩ (i * 6))).block = (Addr.add ⟨bM, 0, none⟩ (i * 6)).block from rfl, add_block]; exact hb _ (by omega) (by omega))
    · have hi := lt_of_some h
      have h1 := iL (by omega)
      have h2 := oL 0 i (Nat.zero_le _) (by omega)
      have h3 := oL (i + 1) _ hi (Nat.le_refl _)
      exact ihL i t h (fun k g1 g2 => hb k (by omega) (by omega))
    · have hi := lt_of_some h
      have h1 := iM (by omega)
      have h2 := oM 0 i (Nat.zero_le _) (by omega)
      have h3 := oM (i + 1) _ hi (Nat.le_refl _)
      exact ihM i t h (fun k g1 g2 => hb k (by omega) (by omega))

/-- a list that is handed in -/
def InL (w : World) (L : List VT) (x : Value) : Prop := ∃ (a : Addr) (f g : Nat → Value), SlOf x a L.length ∧ (∀ i t, L[i]? = some t → Node w (a.add (i * 5)) t (f i) (g i)) ∧ (∀ i t, L[i]? = some t → HV w t (f i) (g i))
/-- pairs that are handed in -/
def InM (w : World) (K : List ByteArray) (V : List VT) (y : Value) : Prop := ∃ (b : Addr) (p q : Nat → Value), SlOf y b V.length ∧ K.length = V.length ∧
  (∀ i u, K[i]? = some u → w.cell? (b.add (i * 6)) = some (.string u) ∧ u.size ≤ maxLen) ∧ (∀ i t, V[i]? = some t → Node w (nx (b.add (i * 6))) t (p i) (q i)) ∧ (∀ i t, V[i]? = some t → HV w t (p i) (q i))
theorem InL.onto {w w' : World} {L : List VT} {x : Value} (h : InL w L x) (hb : Below w.heap.size w w') : InL w' L x := by
  obtain ⟨a, f, g, h1, h2, h3⟩ := h
  exact ⟨a, f, g, h1, fun i t h => (h2 i t h).onto hb, fun i t h => (h3 i t h).onto hb⟩
theorem InM.onto {w w' : World} {K : List ByteArray} {V : List VT} {y : Value} (h : InM w K V y) (hb : Below w.heap.size w w') : InM w' K V y := by
  obtain ⟨b, p, q, h1, h2, h3, h4, h5⟩ := h
  exact ⟨b, p, q, h1, h2, fun i u h => ⟨keepCell hb (h3 i u h).1, (h3 i u h).2⟩, fun i t h => (h4 i t h).onto hb, fun i t h => (h5 i t h).onto hb⟩
theorem HV.inL {w : World} {T : VT} {x y : Value} (h : HV w T x y) : InL w T.ls x := by
  cases h with
  | mk a b f g p q hk hn hs hL hM hK cL cK cM rL rM => exact ⟨a, f, g, hL, cL, rL⟩
theorem HV.inM {w : World} {T : VT} {x y : Value} (h : HV w T x y) : InM w T.ks T.vs y := by
  cases h with
  | mk a b f g p q hk hn hs hL hM hK cL cK cM rL rM => exact ⟨b, p, q, hM, hK, cK, cM, rM⟩
theorem hv_in {w : World} {k n : Int} {s : ByteArray} {L : List VT} {K : List ByteArray} {V : List VT} {x y : Value} (hk : (Lit.int .i64 k).wf = true) (hn : (Lit.int .i64 n).wf = true) (hs : s.size ≤ maxLen) (hL : InL w L x) (hM : InM w K V y) : HV w (.mk k n s L K V) x y := by
  obtain ⟨a, f, g, h1, h2, h3⟩ := hL
  obtain ⟨b, p, q, k1, k2, k3, k4, k5⟩ := hM
  exact .mk a b f g p q hk hn hs h1 k1 k2 h2 k3 k4 h3 k5

/-- a list in blocks of its own -/
def LF (w : World) (lo hi : Nat) (L : List VT) (x : Value) : Prop := ∃ (b : Nat) (l : Nat → Nat) (f g : Nat → Value), SlOf x ⟨b, 0, none⟩ L.length ∧ (0 < L.length → lo ≤ b ∧ b < l 0 ∧ l L.length ≤ hi) ∧ (∀ i j, i ≤ j → j ≤ L.length → l i ≤ l j) ∧
  (∀ i t, L[i]? = some t → Node w (Addr.add ⟨b, 0, none⟩ (i * 5)) t (f i) (g i)) ∧ (∀ i t, L[i]? = some t → HF w (l i) (l (i + 1)) t (f i) (g i))
/-- pairs in blocks of their own -/
def MF (w : World) (lo hi : Nat) (K : List ByteArray) (V : List VT) (y : Value) : Prop := ∃ (b : Nat) (r : Nat → Nat) (p q : Nat → Value), SlOf y ⟨b, 0, none⟩ V.length ∧ K.length = V.length ∧ (0 < V.length → lo ≤ b ∧ b < r 0 ∧ r V.length ≤ hi) ∧ (∀ i j, i ≤ j → j ≤ V.length → r i ≤ r j) ∧
  (∀ i u, K[i]? = some u → w.cell? (Addr.add ⟨b, 0, none⟩ (i * 6)) = some (.string u) ∧ u.size ≤ maxLen) ∧ (∀ i t, V[i]? = some t → Node w (nx (Addr.add ⟨b, 0, none⟩ (i * 6))) t (p i) (q i)) ∧ (∀ i t, V[i]? = some t → HF w (r i) (r (i + 1)) t (p i) (q i))
theorem hf_of {w : World} {lo m hi : Nat} {k n : Int} {s : ByteArray} {L : List VT} {K : List ByteArray} {V : List VT} {x y : Value} (hk : (Lit.int .i64 k).wf = true) (hn : (Lit.int .i64 n).wf = true) (hs : s.size ≤ maxLen) (h1 : lo ≤ m) (h2 : m ≤ hi) (hL : LF w lo m L x) (hM : MF w m hi K V y) : HF w lo hi (.mk k n s L K V) x y := by
  obtain ⟨b, l, f, g, g1, g2, g3, g4, g5⟩ := hL
  obtain ⟨c, r, p, q, k1, k2, k3, k4, k5, k6, k7⟩ := hM
  exact .mk m b c l r f g p q hk hn hs g1 k1 k2 h1 h2 g2 k3 g3 k4 g4 k5 k6 g5 k7
theorem lf_nil (w : World) (lo hi : Nat) : LF w lo hi [] (.slice none 0 0) :=
  ⟨0, fun _ => 0, fun _ => .nilIface, fun _ => .nilIface, ⟨none, 0, rfl, Nat.le_refl _, Nat.zero_le _, fun h => absurd h (by simp)⟩, fun h => absurd h (by simp), fun _ _ _ _ => Nat.le_refl _, fun i t h => by simp at h, fun i t h => by simp at h⟩
theorem mf_nil (w : World) (lo hi : Nat) : MF w lo hi [] [] (.slice none 0 0) :=
  ⟨0, fun _ => 0, fun _ => .nilIface, fun _ => .nilIface, ⟨none, 0, rfl, Nat.le_refl _, Nat.zero_le _, fun h => absurd h (by simp)⟩, rfl, fun h => absurd h (by simp), fun _ _ _ _ => Nat.le_refl _, fun i t h => by simp at h, fun i t h => by simp at h, fun i t h => by simp at h⟩
theorem LF.wide {w : World} {lo hi lo' hi' : Nat} {L : List VT} {x : Value} (h : LF w lo hi L x) (h1 : lo' ≤ lo) (h2 : hi ≤ hi') : LF w lo' hi' L x := by
  obtain ⟨b, l, f, g, g1, g2, g3, g4, g5⟩ := h
  exact ⟨b, l, f, g, g1, fun h => by have := g2 h; omega, g3, g4, g5⟩
theorem MF.wide {w : World} {lo hi lo' hi' : Nat} {K : List ByteArray} {V : List VT} {y : Value} (h : MF w lo hi K V y) (h1 : lo' ≤ lo) (h2 : hi ≤ hi') : MF w lo' hi' K V y := by
  obtain ⟨b, l, f, g, g1, g0, g2, g3, g4, g5⟩ := h
  exact ⟨b, l, f, g, g1, g0, fun h => by have := g2 h; omega, g3, g4, g5⟩
theorem LF.onto {w w' : World} {lo hi : Nat} {L : List VT} {x : Value} (h : LF w lo hi L x) (hb : ∀ k, lo ≤ k → k < hi → w'.heap[k]? = w.heap[k]?) : LF w' lo hi L x := by
  obtain ⟨b, l, f, g, g1, g2, g3, g4, g5⟩ := h
  refine ⟨b, l, f, g, g1, g2, g3, fun i t h => ?_, fun i t h => ?_⟩
  · have hi := lt_of_some h
    have h1 := g2 (by omega)
    have h2 := g3 0 _ (Nat.zero_le _) (Nat.le_refl _)
    exact (g4 i t h).eqs (by rw [add_block]; exact hb _ (by omega) (by omega))
  · have hi := lt_of_some h
    have h1 := g2 (by omega)
    have h2 := g3 0 i (Nat.zero_le _) (by omega)
    have h3 := g3 (i + 1) _ hi (Nat.le_refl _)
    exact (g5 i t h).onto (fun k g1 g2 => hb k (by omega) (by omega))
theorem MF.onto {w w' : World} {lo hi : Nat} {K : List ByteArray} {V : List VT} {y : Value} (h : MF w lo hi K V y) (hb : ∀ k, lo ≤ k → k < hi → w'.heap[k]? = w.heap[k]?) : MF w' lo hi K V y := by
  obtain ⟨b, l, f, g, g1, g0, g2, g3, g6, g4, g5⟩ := h
  refine ⟨b, l, f, g, g1, g0, g2, g3, fun i u h => ?_, fun i t h => ?_, fun i t h => ?_⟩
  · have hi := lt_of_some h
    have h1 := g2 (by omega)
    have h2 := g3 0 _ (Nat.zero_le _) (Nat.le_refl _)
    refine ⟨(World.cell?_of_block (w := w) ?_).trans (g6 i u h).1, (g6 i u h).2⟩
    rw [add_block]; exact hb _ (by omega) (by omega)
  · have hi := lt_of_some h
    have h1 := g2 (by omega)
    have h2 := g3 0 _ (Nat.zero_le _) (Nat.le_refl _)
    exact (g4 i t h).eqs (by rw [show (nx (Addr.add ⟨b, 0, none⟩ (i * 6))).block = (Addr.add ⟨b, 0, none⟩ (i * 6)).block from rfl, add_block]; exact hb _ (by omega) (by omega))
  · have hi := lt_of_some h
    have h1 := g2 (by omega)
    have h2 := g3 0 i (Nat.zero_le _) (by omega)
    have h3 := g3 (i + 1) _ hi (Nat.le_refl _)
    exact (g5 i t h).onto (fun k g1 g2 => hb k (by omega) (by omega))
theorem LF.inL {w : World} {lo hi : Nat} {L : List VT} {x : Value} (h : LF w lo hi L x) : InL w L x := by
  obtain ⟨b, l, f, g, g1, g2, g3, g4, g5⟩ := h
  exact ⟨_, f, g, g1, g4, fun i t h => (g5 i t h).hv⟩
theorem MF.inM {w : World} {lo hi : Nat} {K : List ByteArray} {V : List VT} {y : Value} (h : MF w lo hi K V y) : InM w K V y := by
  obtain ⟨b, l, f, g, g1, g0, g2, g3, g6, g4, g5⟩ := h
  exact ⟨_, f, g, g1, g0, g6, g4, fun i t h => (g5 i t h).hv⟩
theorem HF.lists {w : World} {lo hi : Nat} {T : VT} {x y : Value} (h : HF w lo hi T x y) : ∃ m, lo ≤ m ∧ m ≤ hi ∧ LF w lo m T.ls x ∧ MF w m hi T.ks T.vs y := by
  cases h with
  | mk m bL bM l r f g p q hk hn hs hL hM hK lom mhi iL iM oL oM cL cK cM rL rM =>
    exact ⟨m, lom, mhi, ⟨bL, l, f, g, hL, iL, oL, cL, rL⟩, ⟨bM, r, p, q, hM, hK, iM, oM, cK, cM, rM⟩⟩
theorem hv_slices {w : World} {T : VT} {x y : Value} (h : HV w T x y) : ∃ o n c o' n' c', x = .slice o n c ∧ y = .slice o' n' c' := by
  cases h with
  | mk a b f g p q hk hn hs hL hM hK cL cK cM rL rM =>
    obtain ⟨oL, capL, rfl, -, -, -⟩ := hL
    obtain ⟨oM, capM, rfl, -, -, -⟩ := hM
    exact ⟨_, _, _, _, _, _, rfl, rfl⟩
theorem vset_bel {w a : World} {ad : Addr} {v : Value} (h : Below w.heap.size w a) (hb : w.heap.size ≤ ad.block) : Below w.heap.size w (a.setCell ad v) := h.setCell hb v
theorem valloc_bel {w a : World} (h : Below w.heap.size w a) (o : Obj) : Below w.heap.size w (a.alloc o) := h.alloc h.size _
theorem vdrew_bel {w a : World} (h : Below w.heap.size w a) (n : Nat) : Below w.heap.size w (a.drewN n) := h.trans ⟨rfl, rfl, rfl, Nat.le_refl _, fun _ _ => rfl⟩
theorem vonto {w a b : World} (h : Below w.heap.size w a) (k : Below a.heap.size a b) : Below w.heap.size w b := h.trans (k.mono h.size)
theorem len_szL : ∀ L : List VT, L.length ≤ szL L
  | [] => by simp [szL]
  | t :: r => by have := len_szL r; have := szT_pos t; simp only [List.length_cons, szL]; omega
theorem len_sz (T : VT) : T.ls.length ≤ szT T ∧ T.vs.length ≤ szT T := by
  cases T with
  | mk k n s L K V => have h1 := len_szL L; have h2 := len_szL V; simp only [szT, VT.ls, VT.vs]; omega
theorem HV.wfs {w : World} {T : VT} {x y : Value} (h : HV w T x y) : (Lit.int .i64 T.kd).wf = true ∧ (Lit.int .i64 T.nm).wf = true ∧ T.st.size ≤ maxLen := by
  cases h with
  | mk a b f g p q hk hn hs hL hM hK cL cK cM rL rM => exact ⟨hk, hn, hs⟩
theorem LF.slice {w : World} {lo hi : Nat} {L : List VT} {x : Value} (h : LF w lo hi L x) : ∃ o n c, x = .slice o n c := by
  obtain ⟨b, l, f, g, ⟨o, cap, rfl, -⟩, -⟩ := h
  exact ⟨_, _, _, rfl⟩
theorem MF.slice {w : World} {lo hi : Nat} {K : List ByteArray} {V : List VT} {x : Value} (h : MF w lo hi K V x) : ∃ o n c, x = .slice o n c := by
  obtain ⟨b, l, f, g, ⟨o, cap, rfl, -⟩, -⟩ := h
  exact ⟨_, _, _, rfl⟩
/-- a call above a world -/
theorem call_above {P : Program} {f : FuncId} {args : Array Value} {w x : World} {v : Ending} (hx : Below w.heap.size w x) (h : Calls P f args x fun e w' => e = v ∧ Below x.heap.size x w') : Calls P f args x fun e w' => e = v ∧ Below w.heap.size w w' :=
  h.mono fun _ _ ⟨he, hb⟩ => ⟨he, vonto hx hb⟩
end Go.Proofs.YtnpojefcibfgkabGreatDoor
