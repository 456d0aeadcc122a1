/- Trees that may be: the mathematics of it. -/
import Derived.Test.YtadbeodeiijhdaaGreatDoorKVNode
import Derived.Test.YtadbeodeiijhdaaGreatDoorKVBase
import Derived.Test.YtadbeodeiijhdaaGreatDoorKPathOne
import Derived.Test.YtadbeodeiijhdaaGreatDoorKPathEvery
import Derived.Test.YtadbeodeiijhdaaGreatDoorKVCopyAll
import Derived.Lib.Replace
import Derived.Shelf.Strings.BuilderK
import Derived.Shelf.Strconv.Itoa3
import Derived.Shelf.Strconv.AtoiAll
import Derived.Shelf.Strings.Split
import Derived.Shelf.Strings.Replace
import Derived.Test.YtadbeodeiijhdaaGreatDoorProg
/- The texts of paths: strings.ReplaceAll by its laws over a list's head; the marks of a key, and back. -/
/- The library's contracts that the walks take, laid at this translation. -/
namespace Go.Proofs.YtadbeodeiijhdaaGreatDoor
open Go.RowKit

mutual
/-- a tree may be, whatever its size -/
def plainT : VT → Bool
  | .mk k n s L K V => nodeB (.mk k n s L K V) && plainL L && plainL V
def plainL : List VT → Bool
  | [] => true
  | t :: r => plainT t && plainL r
end
theorem plainT_eq (T : VT) : plainT T = (nodeB T && plainL T.ls && plainL T.vs) := by cases T; rw [plainT]; rfl
theorem plainL_get : ∀ (L : List VT), plainL L = true ↔ ∀ (i : Nat) (t : VT), L[i]? = some t → plainT t = true
  | [] => by simp [plainL]
  | a :: r => by
    simp only [plainL, Bool.and_eq_true]
    rw [plainL_get r]
    constructor
    · rintro ⟨h1, h2⟩ i t hi
      cases i with
      | zero => simp at hi; subst hi; exact h1
      | succ i => simp at hi; exact h2 i t hi
    · intro g
      exact ⟨g 0 a rfl, fun i t hi => g (i + 1) t (by simpa using hi)⟩
theorem hgL_get : ∀ (L : List VT) (m : Nat), hgL L ≤ m ↔ ∀ (i : Nat) (t : VT), L[i]? = some t → hgT t ≤ m
  | [], m => by simp [hgL]
  | a :: r, m => by
    simp only [hgL, Nat.max_le]
    rw [hgL_get r m]
    constructor
    · rintro ⟨h1, h2⟩ i t hi
      cases i with
      | zero => simp at hi; subst hi; exact h1
      | succ i => simp at hi; exact h2 i t hi
    · intro g
      exact ⟨g 0 a rfl, fun i t hi => g (i + 1) t (by simpa using hi)⟩
/-- a tree may be, with so many nodes ahead of it, so deep below the top -/
def mayB (c d : Int) (T : VT) : Bool := decide (c + szT T ≤ 4096 ∧ d + hgT T ≤ 33) && plainT T
theorem good_node {c d : Int} {T : VT} (h : mayB c d T = true) : c + 1 ≤ 4096 ∧ d ≤ 32 ∧ nodeB T = true := by
  unfold mayB at h
  simp only [Bool.and_eq_true, decide_eq_true_eq] at h
  have h1 := szT_pos T; have h2 := hgT_pos T
  have h3 := h.2
  rw [plainT_eq] at h3
  simp only [Bool.and_eq_true] at h3
  exact ⟨by omega, by omega, h3.1.1⟩
theorem hg_ls (T : VT) : hgL T.ls + 1 ≤ hgT T ∧ hgL T.vs + 1 ≤ hgT T := by cases T; simp only [hgT, VT.ls, VT.vs]; omega
theorem sz_both (T : VT) : szT T = 1 + szL T.ls + szL T.vs := by cases T; simp only [szT, VT.ls, VT.vs]
theorem hg_both (T : VT) : hgT T = 1 + max (hgL T.ls) (hgL T.vs) := by cases T; simp only [hgT, VT.ls, VT.vs]
theorem good_ls {c d : Int} {T : VT} (h : mayB c d T = true) (i : Nat) (t : VT) (ht : T.ls[i]? = some t) : mayB (c + 1 + szL (T.ls.take i)) (d + 1) t = true := by
  unfold mayB at *
  simp only [Bool.and_eq_true, decide_eq_true_eq] at *
  have h3 := h.2
  rw [plainT_eq] at h3
  simp only [Bool.and_eq_true] at h3
  have h4 := szL_take_succ T.ls i t ht
  have h5 := szL_take_le T.ls (i + 1)
  have h6 := (hgL_get T.ls _).1 (Nat.le_refl _) i t ht
  have h7 := hg_ls T
  have h8 := sz_both T
  exact ⟨⟨by omega, by omega⟩, (plainL_get _).1 h3.1.2 i t ht⟩
theorem good_vs {c d : Int} {T : VT} (h : mayB c d T = true) (i : Nat) (t : VT) (ht : T.vs[i]? = some t) : mayB (c + 1 + szL T.ls + szL (T.vs.take i)) (d + 1) t = true := by
  unfold mayB at *
  simp only [Bool.and_eq_true, decide_eq_true_eq] at *
  have h3 := h.2
  rw [plainT_eq] at h3
  simp only [Bool.and_eq_true] at h3
  have h4 := szL_take_succ T.vs i t ht
  have h5 := szL_take_le T.vs (i + 1)
  have h6 := (hgL_get T.vs _).1 (Nat.le_refl _) i t ht
  have h7 := hg_ls T
  have h8 := sz_both T
  exact ⟨⟨by omega, by omega⟩, (plainL_get _).1 h3.2 i t ht⟩
theorem good_sz {c d : Int} {T : VT} (h : mayB c d T = true) : c + szT T ≤ 4096 ∧ d + hgT T ≤ 33 ∧ plainT T = true := by
  unfold mayB at h
  simp only [Bool.and_eq_true, decide_eq_true_eq] at h
  exact ⟨h.1.1, h.1.2, h.2⟩
theorem good_all {c d : Int} {T : VT} (hd : d ≤ 32) (hc : c + 1 + szL T.ls + szL T.vs ≤ 4096) (hn : nodeB T = true) (h1 : ∀ (i : Nat) (t : VT), T.ls[i]? = some t → d + 1 + hgT t ≤ 33 ∧ plainT t = true) (h2 : ∀ (i : Nat) (t : VT), T.vs[i]? = some t → d + 1 + hgT t ≤ 33 ∧ plainT t = true) : mayB c d T = true := by
  unfold mayB
  have h8 := sz_both T
  have h9 := hg_both T
  have g1 := (hgL_get T.ls (32 - d).toNat).2 (fun i t h => by have := (h1 i t h).1; omega)
  have g2 := (hgL_get T.vs (32 - d).toNat).2 (fun i t h => by have := (h2 i t h).1; omega)
  rw [plainT_eq, hn, (plainL_get _).2 (fun i t h => (h1 i t h).2), (plainL_get _).2 (fun i t h => (h2 i t h).2), decide_eq_true (by constructor <;> omega)]
  rfl
end Go.Proofs.YtadbeodeiijhdaaGreatDoor
/- Plain mathematics of leaves: the parts of a tree that have no parts, with their paths. -/
namespace Go.Proofs.YtadbeodeiijhdaaGreatDoor

def lpl (i : Nat) : PStep := ⟨⟨#[]⟩, i, true⟩
def lky (c : ByteArray) : PStep := ⟨c, 0, false⟩
mutual
def lfT : VT → List PStep → List (List PStep × VT)
  | .mk k n s L K V, p => if k = 5 ∧ 0 < L.length then lfL L 0 p else if k = 6 ∧ 0 < V.length then lfM V K p else [(p, .mk k n s L K V)]
def lfL : List VT → Nat → List PStep → List (List PStep × VT)
  | [], _, _ => []
  | t :: r, i, p => lfT t (p ++ [lpl i]) ++ lfL r (i + 1) p
def lfM : List VT → List ByteArray → List PStep → List (List PStep × VT)
  | [], _, _ => []
  | t :: r, K, p => lfT t (p ++ [lky (K.headD ⟨#[]⟩)]) ++ lfM r K.tail p
end
theorem lfT_at (T : VT) (p : List PStep) : lfT T p = if T.kd = 5 ∧ 0 < T.ls.length then lfL T.ls 0 p else if T.kd = 6 ∧ 0 < T.vs.length then lfM T.vs T.ks p else [(p, T)] := by
  cases T with
  | mk k n s L K V => rw [lfT]; rfl
mutual
theorem lfT_len : ∀ (T : VT) (p : List PStep), (lfT T p).length ≤ szT T
  | .mk k _ _ L K V, p => by
    have h1 := lfL_len L 0 p
    have h2 := lfM_len V K p
    simp only [lfT, szT]
    split
    · omega
    · split
      · omega
      · simp only [List.length_cons, List.length_nil]; omega
theorem lfL_len : ∀ (L : List VT) (i : Nat) (p : List PStep), (lfL L i p).length ≤ szL L
  | [], _, _ => Nat.zero_le _
  | t :: r, i, p => by
    have h1 := lfT_len t (p ++ [lpl i])
    have h2 := lfL_len r (i + 1) p
    simp only [lfL, szL, List.length_append]; omega
theorem lfM_len : ∀ (V : List VT) (K : List ByteArray) (p : List PStep), (lfM V K p).length ≤ szL V
  | [], _, _ => Nat.zero_le _
  | t :: r, K, p => by
    have h1 := lfT_len t (p ++ [lky (K.headD ⟨#[]⟩)])
    have h2 := lfM_len r K.tail p
    simp only [lfM, szL, List.length_append]; omega
end
end Go.Proofs.YtadbeodeiijhdaaGreatDoor
/- flat: the walk through a tree: what it holds in memory; a part entered. -/
namespace Go.Proofs.YtadbeodeiijhdaaGreatDoor
open Go.RowKit

/-- a leaf that was told: its path, its tree, the path's slice, its own two -/
structure LE where
  p : List PStep
  T : VT
  u : Value
  x : Value
  y : Value
def LE.pt (e : LE) : List PStep × VT := (e.p, e.T)
def lcE (e : LE) : List Value := [e.u, .int .i64 e.T.kd, .int .i64 e.T.nm, .string e.T.st, e.x, e.y]
/-- a tree without parts, wherever it is -/
def Bare (e : LE) : Prop := (e.T.ls = [] ∧ e.T.vs = []) ∧ ∀ w, HV w e.T e.x e.y
/-- the walk's box: where it is now, and the paths that it came by -/
def OwnF (W w : World) (v : Value) (E : List LE) : Prop := w.ownsRow W.heap.size 37 6 v E.length (E.flatMap lcE)
structure Lk (W : World) (b : Nat) (nv pv : Value) (now : List PStep) (E : List LE) (w : World) : Prop where
  bel : Below W.heap.size W w
  lo : W.heap.size ≤ b
  box : w.heap[b]? = some (.cells #[nv, pv] 72 (0, 0))
  ns : OwnS W w nv now
  ps : OwnF W w pv E
  es : ∀ e ∈ E, OwnS W w e.u e.p ∧ (e.u.ownBlock = none ∨ e.u.ownBlock ≠ nv.ownBlock)
  bs : ∀ e ∈ E, Bare e
theorem Lk.onto {W : World} {b : Nat} {nv pv : Value} {now : List PStep} {E : List LE} {w w' : World} (h : Lk W b nv pv now E w) (hb : Below w.heap.size w w') : Lk W b nv pv now E w' :=
  ⟨vonto h.bel hb, h.lo, by rw [hb.block b (Array.getElem?_eq_some_iff.1 h.box).1]; exact h.box, ownsRow_below h.ns hb, ownsRow_below h.ps hb, fun e he => ⟨ownsRow_below (h.es e he).1 hb, (h.es e he).2⟩, h.bs⟩
theorem Lk.lt {W : World} {b : Nat} {nv pv : Value} {now : List PStep} {E : List LE} {w : World} (h : Lk W b nv pv now E w) : b < w.heap.size := (Array.getElem?_eq_some_iff.1 h.box).1
theorem lbox_set {w : World} {b : Nat} {c : Array Value} {ty : TypeId} {fz : Nat × Nat} (h : w.heap[b]? = some (.cells c ty fz)) (o : Nat) (u : Value) : (w.setCell ⟨b, o, none⟩ u).heap[b]? = some (.cells (c.setIfInBounds o u) ty fz) := by
  simp [World.setCell, Array.getElem?_modify, h]
/-- a leaf more -/
theorem Lk.more {W : World} {b : Nat} {nv pv : Value} {now : List PStep} {E : List LE} {w w3 : World} {pv' : Value} (e : LE) (h : Lk W b nv pv now E w) (hu : OwnS W w e.u e.p) (hun : e.u.ownBlock = none ∨ e.u.ownBlock ≠ nv.ownBlock) (hB : Bare e)
    (h3 : w3.ownsRow W.heap.size 37 6 pv' (E.length + 1) (E.flatMap lcE ++ lcE e)) (hg : w.grownBy w3 pv.ownBlock) : Lk W b nv pv' now (E ++ [e]) (w3.setCell ⟨b, 1, none⟩ pv') := by
  have hbne : pv.ownBlock = none ∨ pv.ownBlock ≠ some b := own_off h.ps h.box (by decide)
  have hbx : w3.heap[b]? = some (.cells #[nv, pv] 72 (0, 0)) := by
    rw [hg.block b h.lt (off_ne hbne)]
    exact h.box
  have keep : ∀ {v : Value} {q : List PStep}, OwnS W w v q → OwnS W (w3.setCell ⟨b, 1, none⟩ pv') v q := fun {v q} hv => by
    have h1 : OwnS W w3 v q := hv.kept hg (own_ne hv h.ps (by decide))
    exact h1.kept (set_grownW w3 b 1 pv') (own_off h1 hbx (by decide))
  refine ⟨?_, h.lo, by rw [lbox_set hbx]; rfl, keep h.ns, ?_, ?_, ?_⟩
  · exact vset_bel (h.bel.grown hg (by have := h.bel.size; omega) (fun q hq => (h.ps.lt q hq).1)) h.lo
  · have := h3.kept (set_grownW w3 b 1 pv') (own_off h3 hbx (by decide))
    simpa [OwnF] using this
  · intro e' he
    rcases List.mem_append.1 he with he | he
    · exact ⟨keep (h.es e' he).1, (h.es e' he).2⟩
    · simp at he; subst he; exact ⟨keep hu, hun⟩
  · intro e' he
    rcases List.mem_append.1 he with he | he
    · exact h.bs e' he
    · simp at he; subst he; exact hB
/-- a step down -/
theorem Lk.down {W : World} {b : Nat} {nv pv : Value} {now : List PStep} {E : List LE} {w w3 : World} {g cap : Nat} {s : PStep} (h : Lk W b nv pv now E w)
    (h3 : w3.ownsRow W.heap.size 76 3 (.slice (some ⟨g, 0, none⟩) (now.length + 1) cap) (now.length + 1) (now.flatMap sc ++ sc s)) (hg : w.grownBy w3 nv.ownBlock) (hw : nv.ownBlock = some g ∨ g = w.heap.size) :
    Lk W b (.slice (some ⟨g, 0, none⟩) (now.length + 1) cap) pv (now ++ [s]) E (w3.setCell ⟨b, 0, none⟩ (.slice (some ⟨g, 0, none⟩) (now.length + 1) cap)) := by
  have hbne : nv.ownBlock = none ∨ nv.ownBlock ≠ some b := own_off h.ns h.box (by decide)
  have hbx : w3.heap[b]? = some (.cells #[nv, pv] 72 (0, 0)) := by
    rw [hg.block b h.lt (off_ne hbne)]
    exact h.box
  refine ⟨?_, h.lo, by rw [lbox_set hbx]; rfl, ?_, ?_, ?_, h.bs⟩
  · exact vset_bel (h.bel.grown hg (by have := h.bel.size; omega) (fun q hq => (h.ns.lt q hq).1)) h.lo
  · have := h3.kept (set_grownW w3 b 0 (.slice (some ⟨g, 0, none⟩) (now.length + 1) cap)) (own_off h3 hbx (by decide))
    simpa [OwnS] using this
  · have h1 := h.ps.kept hg (own_ne h.ps h.ns (by decide))
    exact h1.kept (set_grownW w3 b 0 _) (own_off h1 hbx (by decide))
  · intro e he
    obtain ⟨k1, k2⟩ := h.es e he
    have k3 := k1.kept hg k2
    refine ⟨k3.kept (set_grownW w3 b 0 _) (own_off k3 hbx (by decide)), ?_⟩
    rcases hw with hw | hw
    · rw [hw] at k2; exact k2
    · exact own_neq k1 g rfl (.inr (by omega))
/-- and up again -/
theorem Lk.up {W : World} {b g cap : Nat} {pv : Value} {now : List PStep} {s : PStep} {E : List LE} {w : World} (h : Lk W b (.slice (some ⟨g, 0, none⟩) (now.length + 1) cap) pv (now ++ [s]) E w) :
    Lk W b (.slice (some ⟨g, 0, none⟩) now.length cap) pv now E (w.setCell ⟨b, 0, none⟩ (.slice (some ⟨g, 0, none⟩) now.length cap)) := by
  have hns : OwnS W w (.slice (some ⟨g, 0, none⟩) now.length cap) now := by
    rcases h.ns.2 with ⟨e, -⟩ | ⟨g', cap', cur, e, hb, hgg, h1, h2, h3, h4⟩
    · cases e
    · injection e with e1 e2 e3
      injection e1 with e1
      injection e1 with e1
      subst e1 e3
      simp only [List.length_append, List.length_singleton] at h1 h4
      refine ⟨sc_len now, .inr ⟨g, cap, cur, rfl, hb, hgg, by omega, h2, h3, ?_⟩⟩
      have := congrArg (List.take (now.length * 3)) h4
      rw [List.take_take, Nat.min_eq_left (by omega), List.flatMap_append, ← sc_len now, List.take_left] at this
      rw [← sc_len now]
      exact this
  have hbx := h.box
  refine ⟨vset_bel h.bel h.lo, h.lo, by rw [lbox_set hbx]; rfl, hns.kept (set_grownW w b 0 _) (own_off hns hbx (by decide)), h.ps.kept (set_grownW w b 0 _) (own_off h.ps hbx (by decide)), fun e he => ?_, h.bs⟩
  obtain ⟨k1, k2⟩ := h.es e he
  exact ⟨k1.kept (set_grownW w b 0 _) (own_off k1 hbx (by decide)), k2⟩
end Go.Proofs.YtadbeodeiijhdaaGreatDoor
namespace Go.Proofs.YtadbeodeiijhdaaGreatDoor
open Go.RowKit

/-- a node visited -/
def LVisitOk (W : World) (T : VT) : Prop := plainT T = true → ∀ (x y : Value) (b : Nat) (nv pv' : Value) (now : List PStep) (E : List LE) (w : World), HV W T x y → Lk W b nv pv' now E w → now.length + szT T ≤ 2000000 → E.length + szT T ≤ 2000000 →
  Calls Tryz.prog 32 #[.pointer (some ⟨b, 0, none⟩), vv T x y] w fun e w' => e = .returned (.tuple #[]) ∧ ∃ nv2 pv2 E2, Lk W b nv2 pv2 now E2 w' ∧ E2.map LE.pt = E.map LE.pt ++ lfT T now
theorem Lk.cells {W : World} {b : Nat} {nv pv' : Value} {now : List PStep} {E : List LE} {w : World} (h : Lk W b nv pv' now E w) : w.cell? ⟨b, 0, none⟩ = some nv ∧ w.cell? ⟨b, 1, none⟩ = some pv' ∧ ∀ o, w.frozen? ⟨b, o, none⟩ = false := by
  have hb := h.box
  refine ⟨?_, ?_, fun o => ?_⟩
  · rw [cell_of_row w b 0 _ _ _ hb]; rfl
  · rw [cell_of_row w b 1 _ _ _ hb]; rfl
  · simp [World.frozen?, hb]
theorem Lk.slices {W : World} {b : Nat} {nv pv' : Value} {now : List PStep} {E : List LE} {w : World} (h : Lk W b nv pv' now E w) : (∃ o c, nv = .slice o now.length c) ∧ ∃ o c, pv' = .slice o E.length c := by
  constructor
  · rcases h.ns.2 with ⟨rfl, e⟩ | ⟨g, cap, cur, rfl, -⟩
    · exact ⟨none, 0, by rw [e]⟩
    · exact ⟨_, _, rfl⟩
  · rcases h.ps.2 with ⟨rfl, e⟩ | ⟨g, cap, cur, rfl, -⟩
    · exact ⟨none, 0, by rw [e]⟩
    · exact ⟨_, _, rfl⟩
end Go.Proofs.YtadbeodeiijhdaaGreatDoor
namespace Go.Proofs.YtadbeodeiijhdaaGreatDoor
open Go.RowKit

end Go.Proofs.YtadbeodeiijhdaaGreatDoor
namespace Go.Proofs.YtadbeodeiijhdaaGreatDoor
open Go

def rA (old new s : List UInt8) : List UInt8 := Lib.replaceK old new (Lib.count s old) s
theorem ra_of {s old new : List UInt8} (h : (old == new) = false) : Lib.replaceAll s old new = rA old new s := by
  unfold Lib.replaceAll Lib.replace Lib.replaceNum rA
  rw [if_neg (by rw [h]; decide), if_pos (Or.inl (by decide))]
theorem ra_nil (old new : List UInt8) (h : old ≠ []) : rA old new [] = [] := by
  have hi : Lib.index [] old = -1 := by
    unfold Lib.index
    rw [if_neg (by rw [List.isEmpty_iff]; exact h)]
  unfold rA
  rw [Lib.count_miss hi]; rfl
theorem index_cons {old : List UInt8} {b : UInt8} {l : List UInt8} (h : old.isPrefixOf (b :: l) = false) : Lib.index (b :: l) old = if Lib.index l old == -1 then -1 else Lib.index l old + 1 := by
  rw [Lib.index, if_neg (by rw [h]; decide)]
theorem ra_cons {old new : List UInt8} {b : UInt8} {l : List UInt8} (h0 : old ≠ []) (h : old.isPrefixOf (b :: l) = false) : rA old new (b :: l) = b :: rA old new l := by
  have hi := index_cons h
  by_cases hm : Lib.index l old = -1
  · rw [if_pos (beq_iff_eq.2 hm)] at hi
    unfold rA
    rw [Lib.count_miss hi, Lib.count_miss hm]; rfl
  · rw [if_neg (fun e => hm (beq_iff_eq.1 e))] at hi
    have hge := Lib.index_ge l old
    obtain ⟨i, hli⟩ : ∃ i : Nat, Lib.index l old = i := ⟨(Lib.index l old).toNat, by omega⟩
    have hbi : Lib.index (b :: l) old = ((i + 1 : Nat) : Int) := by rw [hi, hli]; rfl
    unfold rA
    have e : i + 1 + old.length = (i + old.length) + 1 := by omega
    rw [Lib.count_hit h0 hli, Lib.count_hit h0 hbi, e, List.drop_succ_cons, Nat.add_comm 1, Lib.replaceK_hit _ _ _ _ _ hbi, Lib.replaceK_hit _ _ _ _ _ hli, e, List.drop_succ_cons, List.take_succ_cons]
    rfl
theorem ra_hit {old new : List UInt8} (l : List UInt8) (h0 : old ≠ []) : rA old new (old ++ l) = new ++ rA old new l := by
  have hi : Lib.index (old ++ l) old = ((0 : Nat) : Int) := by
    cases old with
    | nil => exact absurd rfl h0
    | cons a t =>
      have hp : (a :: t).isPrefixOf (a :: (t ++ l)) = true := by
        rw [List.isPrefixOf_iff_prefix]; exact ⟨l, rfl⟩
      show Lib.index (a :: (t ++ l)) (a :: t) = _
      rw [Lib.index, if_pos hp]; rfl
  unfold rA
  rw [Lib.count_hit h0 hi, Nat.add_comm 1, Lib.replaceK_hit _ _ _ _ _ hi]
  simp

/-- ReplaceAll of one byte -/
theorem ra_one (c : UInt8) (new : List UInt8) : ∀ s, rA [c] new s = s.flatMap (fun b => if b = c then new else [b])
  | [] => ra_nil _ _ (by simp)
  | b :: l => by
    by_cases h : b = c
    · subst h
      rw [List.flatMap_cons, if_pos rfl, ← ra_one b new l]
      exact ra_hit l (by simp)
    · rw [List.flatMap_cons, if_neg h, ← ra_one c new l, ra_cons (by simp) (by simp [List.isPrefixOf, Ne.symm h])]
      rfl

/-- a key's bytes, marked -/
def escB (b : UInt8) : List UInt8 := if b = 126 then [126, 48] else if b = 47 then [126, 49] else [b]
def esc (k : List UInt8) : List UInt8 := k.flatMap escB
theorem esc_of (k : List UInt8) : rA [47] [126, 49] (rA [126] [126, 48] k) = esc k := by
  rw [ra_one, ra_one]
  unfold esc
  induction k with
  | nil => rfl
  | cons b l ih =>
    rw [List.flatMap_cons, List.flatMap_cons, List.flatMap_append, ih]
    congr 1
    unfold escB
    by_cases h : b = 126
    · rw [if_pos h, if_pos h]; rfl
    · rw [if_neg h, if_neg h]; simp
theorem esc_len (k : List UInt8) : (esc k).length ≤ 2 * k.length := by
  unfold esc
  induction k with
  | nil => simp
  | cons b l ih =>
    rw [List.flatMap_cons, List.length_append, List.length_cons]
    have : (escB b).length ≤ 2 := by
      unfold escB
      split
      · simp
      · split <;> simp
    omega
def esc0 (k : List UInt8) : List UInt8 := k.flatMap (fun b => if b = 126 then [126, 48] else [b])
end Go.Proofs.YtadbeodeiijhdaaGreatDoor
namespace Go.Proofs
open Go.Shelf
def Tryz.lays169_ren : Go.Shelf.Ren := ⟨fun | 169 => 104 | n => n, fun | 70 => 164 | 9 => 9 | 0 => 0 | 72 => 166 | 37 => 114 | 127 => 194 | 3 => 3 | 5 => 5 | n => n, fun | n => n⟩
def Tryz.laysM171_ren : Go.Shelf.Ren := ⟨fun | 171 => 102 | 243 => 129 | 246 => 166 | 283 => 187 | 284 => 188 | 285 => 189 | 286 => 190 | 129 => 160 | 317 => 207 | 318 => 208 | 319 => 209 | 320 => 210 | 337 => 229 | 338 => 230 | n => n, fun | 3 => 3 | 9 => 9 | 2 => 2 | 4 => 4 | 171 => 235 | 0 => 0 | 53 => 215 | 37 => 114 | 5 => 5 | 173 => 237 | 212 => 252 | 51 => 213 | 20 => 20 | 213 => 253 | 46 => 159 | 232 => 279 | 233 => 280 | n => n, fun | 17 => 1 | 18 => 6 | 19 => 7 | n => n⟩
def Tryz.laysC172_ren : Go.Shelf.Ren := ⟨fun | 172 => 136 | 244 => 174 | 245 => 175 | 247 => 198 | 279 => 199 | 280 => 200 | 281 => 201 | 282 => 202 | 287 => 217 | 316 => 143 | 171 => 102 | 205 => 218 | 321 => 234 | 322 => 235 | 243 => 129 | 246 => 166 | 283 => 187 | 284 => 188 | 285 => 189 | 286 => 190 | 129 => 160 | 317 => 207 | 318 => 208 | 319 => 209 | 320 => 210 | 337 => 229 | 338 => 230 | n => n, fun | 9 => 9 | 3 => 3 | 75 => 168 | 76 => 170 | 4 => 4 | 5 => 5 | 167 => 244 | 37 => 114 | 0 => 0 | 85 => 227 | 2 => 2 | 168 => 245 | 53 => 215 | 175 => 254 | 46 => 159 | 210 => 257 | 127 => 194 | 145 => 277 | 143 => 275 | 21 => 21 | 171 => 235 | 173 => 237 | 212 => 252 | 51 => 213 | 20 => 20 | 213 => 253 | 232 => 279 | 233 => 280 | 80 => 173 | n => n, fun | 15 => 2 | 16 => 3 | 17 => 1 | 18 => 6 | 19 => 7 | n => n⟩
theorem Tryz.laysC172 : Go.Proofs.LaysC.n172 Tryz.prog Tryz.laysC172_ren := {
  mixed := by kernel_rfl
  f129 := Tryz.func160.trans (congrArg some (by kernel_rfl))
  f171 := Tryz.func102.trans (congrArg some (by kernel_rfl))
  f172 := Tryz.func136.trans (congrArg some (by kernel_rfl))
  f205 := Tryz.func218.trans (congrArg some (by kernel_rfl))
  f243 := Tryz.func129.trans (congrArg some (by kernel_rfl))
  f244 := Tryz.func174.trans (congrArg some (by kernel_rfl))
  f245 := Tryz.func175.trans (congrArg some (by kernel_rfl))
  f246 := Tryz.func166.trans (congrArg some (by kernel_rfl))
  f247 := Tryz.func198.trans (congrArg some (by kernel_rfl))
  f279 := Tryz.func199.trans (congrArg some (by kernel_rfl))
  f280 := Tryz.func200.trans (congrArg some (by kernel_rfl))
  f281 := Tryz.func201.trans (congrArg some (by kernel_rfl))
  f282 := Tryz.func202.trans (congrArg some (by kernel_rfl))
  f283 := Tryz.func187.trans (congrArg some (by kernel_rfl))
  f284 := Tryz.func188.trans (congrArg some (by kernel_rfl))
  f285 := Tryz.func189.trans (congrArg some (by kernel_rfl))
  f286 := Tryz.func190.trans (congrArg some (by kernel_rfl))
  f287 := Tryz.func217.trans (congrArg some (by kernel_rfl))
  f316 := Tryz.func143.trans (congrArg some (by kernel_rfl))
  f317 := Tryz.func207.trans (congrArg some (by kernel_rfl))
  f318 := Tryz.func208.trans (congrArg some (by kernel_rfl))
  f319 := Tryz.func209.trans (congrArg some (by kernel_rfl))
  f320 := Tryz.func210.trans (congrArg some (by kernel_rfl))
  f321 := Tryz.func234.trans (congrArg some (by kernel_rfl))
  f322 := Tryz.func235.trans (congrArg some (by kernel_rfl))
  f337 := Tryz.func229.trans (congrArg some (by kernel_rfl))
  f338 := Tryz.func230.trans (congrArg some (by kernel_rfl))
  t0 := Tryz.underlying0
  a0 := Tryz.isAgg0
  z0 := Tryz.sizeOf0
  v0 := Tryz.zeroValue0
  t2 := Tryz.underlying2
  a2 := Tryz.isAgg2
  z2 := Tryz.sizeOf2
  v2 := Tryz.zeroValue2
  t3 := Tryz.underlying3
  a3 := Tryz.isAgg3
  z3 := Tryz.sizeOf3
  v3 := Tryz.zeroValue3
  t4 := Tryz.underlying4
  a4 := Tryz.isAgg4
  z4 := Tryz.sizeOf4
  v4 := Tryz.zeroValue4
  t5 := Tryz.underlying5
  a5 := Tryz.isAgg5
  z5 := Tryz.sizeOf5
  v5 := Tryz.zeroValue5
  t9 := Tryz.underlying9
  a9 := Tryz.isAgg9
  z9 := Tryz.sizeOf9
  v9 := Tryz.zeroValue9
  t20 := Tryz.underlying20
  a20 := Tryz.isAgg20
  z20 := Tryz.sizeOf20
  v20 := Tryz.zeroValue20
  t21 := Tryz.underlying21
  a21 := Tryz.isAgg21
  z21 := Tryz.sizeOf21
  v21 := Tryz.zeroValue21
  t37 := Tryz.underlying114
  a37 := Tryz.isAgg114
  z37 := Tryz.sizeOf114
  v37 := Tryz.zeroValue114
  t46 := Tryz.underlying159
  a46 := Tryz.isAgg159
  z46 := Tryz.sizeOf159
  v46 := Tryz.zeroValue159
  t51 := Tryz.underlying213
  a51 := Tryz.isAgg213
  z51 := Tryz.sizeOf213
  v51 := Tryz.zeroValue213
  t53 := Tryz.underlying215
  a53 := Tryz.isAgg215
  z53 := Tryz.sizeOf215
  v53 := Tryz.zeroValue215
  t75 := Tryz.underlying168
  a75 := Tryz.isAgg168
  z75 := Tryz.sizeOf168
  v75 := Tryz.zeroValue168
  t76 := Tryz.underlying170
  a76 := Tryz.isAgg170
  z76 := Tryz.sizeOf170
  v76 := Tryz.zeroValue170
  t85 := Tryz.underlying227
  a85 := Tryz.isAgg227
  z85 := Tryz.sizeOf227
  v85 := Tryz.zeroValue227
  t127 := Tryz.underlying194
  a127 := Tryz.isAgg194
  z127 := Tryz.sizeOf194
  v127 := Tryz.zeroValue194
  t143 := Tryz.underlying275
  a143 := Tryz.isAgg275
  z143 := Tryz.sizeOf275
  v143 := Tryz.zeroValue275
  t145 := Tryz.underlying277
  a145 := Tryz.isAgg277
  z145 := Tryz.sizeOf277
  v145 := Tryz.zeroValue277
  t167 := Tryz.underlying244
  a167 := Tryz.isAgg244
  z167 := Tryz.sizeOf244
  v167 := Tryz.zeroValue244
  t168 := Tryz.underlying245
  a168 := Tryz.isAgg245
  z168 := Tryz.sizeOf245
  v168 := Tryz.zeroValue245
  t171 := Tryz.underlying235
  a171 := Tryz.isAgg235
  z171 := Tryz.sizeOf235
  v171 := Tryz.zeroValue235
  t173 := Tryz.underlying237
  a173 := Tryz.isAgg237
  z173 := Tryz.sizeOf237
  v173 := Tryz.zeroValue237
  t175 := Tryz.underlying254
  a175 := Tryz.isAgg254
  z175 := Tryz.sizeOf254
  v175 := Tryz.zeroValue254
  t210 := Tryz.underlying257
  a210 := Tryz.isAgg257
  z210 := Tryz.sizeOf257
  v210 := Tryz.zeroValue257
  t212 := Tryz.underlying252
  a212 := Tryz.isAgg252
  z212 := Tryz.sizeOf252
  v212 := Tryz.zeroValue252
  t213 := Tryz.underlying253
  a213 := Tryz.isAgg253
  z213 := Tryz.sizeOf253
  t232 := Tryz.underlying279
  a232 := Tryz.isAgg279
  z232 := Tryz.sizeOf279
  v232 := Tryz.zeroValue279
  t233 := Tryz.underlying280
  a233 := Tryz.isAgg280
  z233 := Tryz.sizeOf280
  v233 := Tryz.zeroValue280
  g15 := by kernel_rfl
  g16 := by kernel_rfl
  g17 := by kernel_rfl
  g18 := by kernel_rfl
  g19 := by kernel_rfl
  t80 := Tryz.underlying173
  a80 := Tryz.isAgg173
  z80 := Tryz.sizeOf173
  v80 := Tryz.zeroValue173
  i0 := by kernel_rfl
  i2 := by kernel_rfl
  i3 := by kernel_rfl
  i4 := by kernel_rfl
  i5 := by kernel_rfl
  i9 := by kernel_rfl
  i20 := by kernel_rfl
  i21 := by kernel_rfl
  i37 := by kernel_rfl
  i46 := by kernel_rfl
  i51 := by kernel_rfl
  i53 := by kernel_rfl
  i75 := by kernel_rfl
  i76 := by kernel_rfl
  i80 := by kernel_rfl
  i85 := by kernel_rfl
  i127 := by kernel_rfl
  i143 := by kernel_rfl
  i145 := by kernel_rfl
  i167 := by kernel_rfl
  i168 := by kernel_rfl
  i171 := by kernel_rfl
  i173 := by kernel_rfl
  i175 := by kernel_rfl
  i210 := by kernel_rfl
  i212 := by kernel_rfl
  i232 := by kernel_rfl
  i233 := by kernel_rfl
  m15 := by kernel_rfl
  m16 := by kernel_rfl
  m17 := by kernel_rfl
  m18 := by kernel_rfl
  m19 := by kernel_rfl
  c0 := by kernel_rfl
  c2 := by kernel_rfl
  c3 := by kernel_rfl
  c4 := by kernel_rfl
  c5 := by kernel_rfl
  c9 := by kernel_rfl
  c20 := by kernel_rfl
  c21 := by kernel_rfl
  c37 := by kernel_rfl
  c46 := by kernel_rfl
  c51 := by kernel_rfl
  c53 := by kernel_rfl
  c75 := by kernel_rfl
  c76 := by kernel_rfl
  c80 := by kernel_rfl
  c85 := by kernel_rfl
  c127 := by kernel_rfl
  c143 := by kernel_rfl
  c145 := by kernel_rfl
  c167 := by kernel_rfl
  c168 := by kernel_rfl
  c171 := by kernel_rfl
  c173 := by kernel_rfl
  c175 := by kernel_rfl
  c210 := by kernel_rfl
  c212 := by kernel_rfl
  c213 := by kernel_rfl
  c232 := by kernel_rfl
  c233 := by kernel_rfl }
open Go.RowKit in
theorem Tryz.strconv_Atoi_ok (s : ByteArray) (hmax : s.size ≤ 9223372036854775806) (v : Int) (h : Lib.atoiAll s.data.toList = .ok v) (w : World) :
    Calls Tryz.prog 136 #[.string s] w fun e w' => e = .returned (.tuple #[.int .i64 v, .nilIface]) ∧ (w' = w ∨ ∃ t, w' = Lib.bytesWorld w 5 t) := Any.strconv_Atoi_ok Tryz.laysC172 s hmax v h w
def Tryz.lays146_ren : Go.Shelf.Ren := ⟨fun | 146 => 108 | 221 => 135 | 268 => 171 | 138 => 172 | 143 => 173 | 195 => 195 | 197 => 192 | 218 => 196 | 219 => 197 | 260 => 212 | 217 => 213 | 225 => 214 | 224 => 215 | 267 => 216 | 266 => 232 | 314 => 233 | n => n, fun | 9 => 9 | 31 => 42 | 3 => 3 | 4 => 4 | 0 => 0 | 105 => 240 | 21 => 21 | 5 => 5 | 46 => 159 | 119 => 268 | 139 => 271 | 138 => 270 | 146 => 272 | 51 => 213 | n => n, fun | 1 => 0 | 3 => 4 | 4 => 5 | n => n⟩
theorem Tryz.lays146 : Go.Proofs.Lays.n146 Tryz.prog Tryz.lays146_ren := {
  mixed := by kernel_rfl
  f138 := Tryz.func172.trans (congrArg some (by kernel_rfl))
  f143 := Tryz.func173.trans (congrArg some (by kernel_rfl))
  f146 := Tryz.func108.trans (congrArg some (by kernel_rfl))
  f195 := Tryz.func195.trans (congrArg some (by kernel_rfl))
  f197 := Tryz.func192.trans (congrArg some (by kernel_rfl))
  f217 := Tryz.func213.trans (congrArg some (by kernel_rfl))
  f218 := Tryz.func196.trans (congrArg some (by kernel_rfl))
  f219 := Tryz.func197.trans (congrArg some (by kernel_rfl))
  f221 := Tryz.func135.trans (congrArg some (by kernel_rfl))
  f224 := Tryz.func215.trans (congrArg some (by kernel_rfl))
  f225 := Tryz.func214.trans (congrArg some (by kernel_rfl))
  f260 := Tryz.func212.trans (congrArg some (by kernel_rfl))
  f266 := Tryz.func232.trans (congrArg some (by kernel_rfl))
  f267 := Tryz.func216.trans (congrArg some (by kernel_rfl))
  f268 := Tryz.func171.trans (congrArg some (by kernel_rfl))
  f314 := Tryz.func233.trans (congrArg some (by kernel_rfl))
  t0 := Tryz.underlying0
  a0 := Tryz.isAgg0
  z0 := Tryz.sizeOf0
  v0 := Tryz.zeroValue0
  t3 := Tryz.underlying3
  a3 := Tryz.isAgg3
  z3 := Tryz.sizeOf3
  v3 := Tryz.zeroValue3
  t4 := Tryz.underlying4
  a4 := Tryz.isAgg4
  z4 := Tryz.sizeOf4
  v4 := Tryz.zeroValue4
  t5 := Tryz.underlying5
  a5 := Tryz.isAgg5
  z5 := Tryz.sizeOf5
  v5 := Tryz.zeroValue5
  t9 := Tryz.underlying9
  a9 := Tryz.isAgg9
  z9 := Tryz.sizeOf9
  v9 := Tryz.zeroValue9
  t21 := Tryz.underlying21
  a21 := Tryz.isAgg21
  z21 := Tryz.sizeOf21
  v21 := Tryz.zeroValue21
  t31 := Tryz.underlying42
  a31 := Tryz.isAgg42
  z31 := Tryz.sizeOf42
  v31 := Tryz.zeroValue42
  t46 := Tryz.underlying159
  a46 := Tryz.isAgg159
  z46 := Tryz.sizeOf159
  v46 := Tryz.zeroValue159
  t51 := Tryz.underlying213
  a51 := Tryz.isAgg213
  z51 := Tryz.sizeOf213
  v51 := Tryz.zeroValue213
  t105 := Tryz.underlying240
  a105 := Tryz.isAgg240
  z105 := Tryz.sizeOf240
  v105 := Tryz.zeroValue240
  t119 := Tryz.underlying268
  a119 := Tryz.isAgg268
  z119 := Tryz.sizeOf268
  t138 := Tryz.underlying270
  a138 := Tryz.isAgg270
  z138 := Tryz.sizeOf270
  v138 := Tryz.zeroValue270
  t139 := Tryz.underlying271
  a139 := Tryz.isAgg271
  z139 := Tryz.sizeOf271
  v139 := Tryz.zeroValue271
  t146 := Tryz.underlying272
  a146 := Tryz.isAgg272
  z146 := Tryz.sizeOf272
  v146 := Tryz.zeroValue272
  g1 := by kernel_rfl
  g3 := by kernel_rfl
  g4 := by kernel_rfl }
open Go.RowKit Go.Lib in
theorem Tryz.strings_Split (s sep : ByteArray) (m : Int) (w : World) (hs : s.size < 4294967281) (hm : w.cell? ⟨0, 0, none⟩ = some (.int .i64 m)) (h1 : 1 ≤ sep.size) :
    Calls Tryz.prog 108 #[.string s, .string sep] w fun e w' =>
      e = .returned (.slice (some ⟨w.heap.size, 0, none⟩) (Lib.countB s sep + 1) (Lib.countB s sep + 1)) ∧ w' = w.alloc (.cells ((Lib.splitB sep 0 (Lib.countB s sep) s).map Value.string).toArray 9) := Any.strings_Split Tryz.lays146 (by kernel_rfl) s sep m w hs hm h1
def Tryz.lays155_ren : Go.Shelf.Ren := ⟨fun | 155 => 130 | 154 => 167 | 138 => 172 | 165 => 191 | 143 => 173 | 166 => 101 | 197 => 192 | 169 => 104 | 195 => 195 | 218 => 196 | 240 => 128 | 241 => 211 | 219 => 197 | 260 => 212 | 276 => 165 | 277 => 231 | 217 => 213 | 225 => 214 | 224 => 215 | 267 => 216 | 266 => 232 | 314 => 233 | n => n, fun | 9 => 9 | 3 => 3 | 4 => 4 | 72 => 166 | 0 => 0 | 76 => 170 | 105 => 240 | 21 => 21 | 5 => 5 | 70 => 164 | 20 => 20 | 37 => 114 | 75 => 168 | 127 => 194 | 164 => 217 | 46 => 159 | 119 => 268 | 139 => 271 | 138 => 270 | 146 => 272 | 51 => 213 | 80 => 173 | n => n, fun | 1 => 0 | 3 => 4 | 4 => 5 | n => n⟩
theorem Tryz.lays155 : Go.Proofs.Lays.n155 Tryz.prog Tryz.lays155_ren := {
  mixed := by kernel_rfl
  f138 := Tryz.func172.trans (congrArg some (by kernel_rfl))
  f143 := Tryz.func173.trans (congrArg some (by kernel_rfl))
  f154 := Tryz.func167.trans (congrArg some (by kernel_rfl))
  f155 := Tryz.func130.trans (congrArg some (by kernel_rfl))
  f165 := Tryz.func191.trans (congrArg some (by kernel_rfl))
  f166 := Tryz.func101.trans (congrArg some (by kernel_rfl))
  f169 := Tryz.func104.trans (congrArg some (by kernel_rfl))
  f195 := Tryz.func195.trans (congrArg some (by kernel_rfl))
  f197 := Tryz.func192.trans (congrArg some (by kernel_rfl))
  f217 := Tryz.func213.trans (congrArg some (by kernel_rfl))
  f218 := Tryz.func196.trans (congrArg some (by kernel_rfl))
  f219 := Tryz.func197.trans (congrArg some (by kernel_rfl))
  f224 := Tryz.func215.trans (congrArg some (by kernel_rfl))
  f225 := Tryz.func214.trans (congrArg some (by kernel_rfl))
  f240 := Tryz.func128.trans (congrArg some (by kernel_rfl))
  f241 := Tryz.func211.trans (congrArg some (by kernel_rfl))
  f260 := Tryz.func212.trans (congrArg some (by kernel_rfl))
  f266 := Tryz.func232.trans (congrArg some (by kernel_rfl))
  f267 := Tryz.func216.trans (congrArg some (by kernel_rfl))
  f276 := Tryz.func165.trans (congrArg some (by kernel_rfl))
  f277 := Tryz.func231.trans (congrArg some (by kernel_rfl))
  f314 := Tryz.func233.trans (congrArg some (by kernel_rfl))
  t0 := Tryz.underlying0
  a0 := Tryz.isAgg0
  z0 := Tryz.sizeOf0
  v0 := Tryz.zeroValue0
  t3 := Tryz.underlying3
  a3 := Tryz.isAgg3
  z3 := Tryz.sizeOf3
  v3 := Tryz.zeroValue3
  t4 := Tryz.underlying4
  a4 := Tryz.isAgg4
  z4 := Tryz.sizeOf4
  v4 := Tryz.zeroValue4
  t5 := Tryz.underlying5
  a5 := Tryz.isAgg5
  z5 := Tryz.sizeOf5
  v5 := Tryz.zeroValue5
  t9 := Tryz.underlying9
  a9 := Tryz.isAgg9
  z9 := Tryz.sizeOf9
  v9 := Tryz.zeroValue9
  t20 := Tryz.underlying20
  a20 := Tryz.isAgg20
  z20 := Tryz.sizeOf20
  v20 := Tryz.zeroValue20
  t21 := Tryz.underlying21
  a21 := Tryz.isAgg21
  z21 := Tryz.sizeOf21
  v21 := Tryz.zeroValue21
  t37 := Tryz.underlying114
  a37 := Tryz.isAgg114
  z37 := Tryz.sizeOf114
  v37 := Tryz.zeroValue114
  t46 := Tryz.underlying159
  a46 := Tryz.isAgg159
  z46 := Tryz.sizeOf159
  v46 := Tryz.zeroValue159
  t51 := Tryz.underlying213
  a51 := Tryz.isAgg213
  z51 := Tryz.sizeOf213
  v51 := Tryz.zeroValue213
  t70 := Tryz.underlying164
  a70 := Tryz.isAgg164
  z70 := Tryz.sizeOf164
  v70 := Tryz.zeroValue164
  t72 := Tryz.underlying166
  a72 := Tryz.isAgg166
  z72 := Tryz.sizeOf166
  v72 := Tryz.zeroValue166
  t75 := Tryz.underlying168
  a75 := Tryz.isAgg168
  z75 := Tryz.sizeOf168
  v75 := Tryz.zeroValue168
  t76 := Tryz.underlying170
  a76 := Tryz.isAgg170
  z76 := Tryz.sizeOf170
  v76 := Tryz.zeroValue170
  t105 := Tryz.underlying240
  a105 := Tryz.isAgg240
  z105 := Tryz.sizeOf240
  v105 := Tryz.zeroValue240
  t119 := Tryz.underlying268
  a119 := Tryz.isAgg268
  z119 := Tryz.sizeOf268
  t127 := Tryz.underlying194
  a127 := Tryz.isAgg194
  z127 := Tryz.sizeOf194
  v127 := Tryz.zeroValue194
  t138 := Tryz.underlying270
  a138 := Tryz.isAgg270
  z138 := Tryz.sizeOf270
  v138 := Tryz.zeroValue270
  t139 := Tryz.underlying271
  a139 := Tryz.isAgg271
  z139 := Tryz.sizeOf271
  v139 := Tryz.zeroValue271
  t146 := Tryz.underlying272
  a146 := Tryz.isAgg272
  z146 := Tryz.sizeOf272
  v146 := Tryz.zeroValue272
  t164 := Tryz.underlying217
  a164 := Tryz.isAgg217
  z164 := Tryz.sizeOf217
  v164 := Tryz.zeroValue217
  g1 := by kernel_rfl
  g3 := by kernel_rfl
  g4 := by kernel_rfl }
theorem Tryz.Builder_Extra_155 : Builder.Extra Tryz.prog Tryz.lays155_ren := {
  sizeBuilder := by kernel_rfl
  liesBuilder := by kernel_rfl
  t5 := Tryz.underlying5
  a5 := Tryz.isAgg5
  z5 := Tryz.sizeOf5
  v5 := Tryz.zeroValue5
  infoByte := by kernel_rfl
  cellsByte := by kernel_rfl
  sizeByte := by kernel_rfl
  neB5 := by decide }
open Go.RowKit Go.Lib in
theorem Tryz.strings_ReplaceAll (s old new : ByteArray) (m : Int) (w : World) (hs : s.size < 4294967281) (hm : w.cell? ⟨0, 0, none⟩ = some (.int .i64 m)) (h1 : 1 ≤ old.size) (hlen : s.size + Lib.countB s old * new.size ≤ 140737488355328) :
    Calls Tryz.prog 130 #[.string s, .string old, .string new] w fun e w' =>
      e = .returned (.string ⟨(Lib.replaceAll s.data.toList old.data.toList new.data.toList).toArray⟩) ∧ Below w.heap.size w w' := Any.strings_ReplaceAll Tryz.lays155 Tryz.Builder_Extra_155 s old new m w hs hm h1 hlen
end Go.Proofs
