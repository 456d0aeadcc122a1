/- Trees that may be: the mathematics of it. -/
import Derived.Test.YteimbjamnfkapaaGreatDoorLVNode
import Derived.Test.YteimbjamnfkapaaGreatDoorLVBase
import Derived.Test.YteimbjamnfkapaaGreatDoorLPathOne
import Derived.Test.YteimbjamnfkapaaGreatDoorLPathEvery
import Derived.Test.YteimbjamnfkapaaGreatDoorLVCopyAll
namespace Go.Proofs.YteimbjamnfkapaaGreatDoor
open Go.RowKit
mutual
def plainT : VT → Bool
 | .mk k n s L K V => nodeB (.mk k n s L K V) && plainL L && plainL V
def plainL : List VT → Bool
 | [] => true
 | t :: r => plainT t && plainL r
end
theorem plainT_eq (T : VT) : plainT T = (nodeB T && plainL T.ls && plainL T.vs) := by cases T; rw [plainT]; rfl
theorem plainL_get : ∀ (L : List VT),plainL L = true ↔ ∀ (i : Nat) (t : VT),L[i]? = some t → plainT t = true
 | [] => by simp [plainL]
 | a :: r => by
  simp only [plainL,Bool.and_eq_true]
  rw [plainL_get r]
  constructor
  ·rintro ⟨h1,h2⟩ i t hi
   cases i with
   | zero => simp at hi; subst hi; exact h1
   | succ i => simp at hi; exact h2 i t hi
  ·intro g
   exact ⟨g 0 a rfl,fun i t hi => g (i + 1) t (by simpa using hi)⟩
theorem hgL_get : ∀ (L : List VT) (m : Nat),hgL L ≤ m ↔ ∀ (i : Nat) (t : VT),L[i]? = some t → hgT t ≤ m
 | [],m => by simp [hgL]
 | a :: r,m => by
  simp only [hgL,Nat.max_le]
  rw [hgL_get r m]
  constructor
  ·rintro ⟨h1,h2⟩ i t hi
   cases i with
   | zero => simp at hi; subst hi; exact h1
   | succ i => simp at hi; exact h2 i t hi
  ·intro g
   exact ⟨g 0 a rfl,fun i t hi => g (i + 1) t (by simpa using hi)⟩
def mayB (c d : Int) (T : VT) : Bool := decide (c + szT T ≤ 4096 ∧ d + hgT T ≤ 33) && plainT T
theorem good_node {c d : Int} {T : VT} (h : mayB c d T = true) : c + 1 ≤ 4096 ∧ d ≤ 32 ∧ nodeB T = true := by
 unfold mayB at h
 simp only [Bool.and_eq_true,decide_eq_true_eq] at h
 have h1 := szT_pos T; have h2 := hgT_pos T
 have h3 := h.2
 rw [plainT_eq] at h3
 simp only [Bool.and_eq_true] at h3
 exact ⟨by omega,by omega,h3.1.1⟩
theorem hg_ls (T : VT) : hgL T.ls + 1 ≤ hgT T ∧ hgL T.vs + 1 ≤ hgT T := by cases T; simp only [hgT,VT.ls,VT.vs]; omega
theorem sz_both (T : VT) : szT T = 1 + szL T.ls + szL T.vs := by cases T; simp only [szT,VT.ls,VT.vs]
theorem hg_both (T : VT) : hgT T = 1 + max (hgL T.ls) (hgL T.vs) := by cases T; simp only [hgT,VT.ls,VT.vs]
theorem good_ls {c d : Int} {T : VT} (h : mayB c d T = true) (i : Nat) (t : VT) (ht : T.ls[i]? = some t) : mayB (c + 1 + szL (T.ls.take i)) (d + 1) t = true := by
 unfold mayB at *
 simp only [Bool.and_eq_true,decide_eq_true_eq] at *
 have h3 := h.2
 rw [plainT_eq] at h3
 simp only [Bool.and_eq_true] at h3
 have h4 := szL_take_succ T.ls i t ht
 have h5 := szL_take_le T.ls (i + 1)
 have h6 := (hgL_get T.ls _).1 (Nat.le_refl _) i t ht
 have h7 := hg_ls T
 have h8 := sz_both T
 exact ⟨⟨by omega,by omega⟩,(plainL_get _).1 h3.1.2 i t ht⟩
theorem good_vs {c d : Int} {T : VT} (h : mayB c d T = true) (i : Nat) (t : VT) (ht : T.vs[i]? = some t) : mayB (c + 1 + szL T.ls + szL (T.vs.take i)) (d + 1) t = true := by
 unfold mayB at *
 simp only [Bool.and_eq_true,decide_eq_true_eq] at *
 have h3 := h.2
 rw [plainT_eq] at h3
 simp only [Bool.and_eq_true] at h3
 have h4 := szL_take_succ T.vs i t ht
 have h5 := szL_take_le T.vs (i + 1)
 have h6 := (hgL_get T.vs _).1 (Nat.le_refl _) i t ht
 have h7 := hg_ls T
 have h8 := sz_both T
 exact ⟨⟨by omega,by omega⟩,(plainL_get _).1 h3.2 i t ht⟩
theorem good_sz {c d : Int} {T : VT} (h : mayB c d T = true) : c + szT T ≤ 4096 ∧ d + hgT T ≤ 33 ∧ plainT T = true := by
 unfold mayB at h
 simp only [Bool.and_eq_true,decide_eq_true_eq] at h
 exact ⟨h.1.1,h.1.2,h.2⟩
theorem good_all {c d : Int} {T : VT} (hd : d ≤ 32) (hc : c + 1 + szL T.ls + szL T.vs ≤ 4096) (hn : nodeB T = true) (h1 : ∀ (i : Nat) (t : VT),T.ls[i]? = some t → d + 1 + hgT t ≤ 33 ∧ plainT t = true) (h2 : ∀ (i : Nat) (t : VT),T.vs[i]? = some t → d + 1 + hgT t ≤ 33 ∧ plainT t = true) : mayB c d T = true := by
 unfold mayB
 have h8 := sz_both T
 have h9 := hg_both T
 have g1 := (hgL_get T.ls (32 - d).toNat).2 (fun i t h => by have := (h1 i t h).1; omega)
 have g2 := (hgL_get T.vs (32 - d).toNat).2 (fun i t h => by have := (h2 i t h).1; omega)
 rw [plainT_eq,hn,(plainL_get _).2 (fun i t h => (h1 i t h).2),(plainL_get _).2 (fun i t h => (h2 i t h).2),decide_eq_true (by constructor <;> omega)]
 rfl
end Go.Proofs.YteimbjamnfkapaaGreatDoor
/- Plain mathematics of leaves: the parts of a tree that have no parts, with their paths. -/
namespace Go.Proofs.YteimbjamnfkapaaGreatDoor
def lpl (i : Nat) : PStep := ⟨⟨#[]⟩,i,true⟩
def lky (c : ByteArray) : PStep := ⟨c,0,false⟩
mutual
def lfT : VT → List PStep → List (List PStep × VT)
 | .mk k n s L K V,p => if k = 5 ∧ 0 < L.length then lfL L 0 p else if k = 6 ∧ 0 < V.length then lfM V K p else [(p,.mk k n s L K V)]
def lfL : List VT → Nat → List PStep → List (List PStep × VT)
 | [],_,_ => []
 | t :: r,i,p => lfT t (p ++ [lpl i]) ++ lfL r (i + 1) p
def lfM : List VT → List ByteArray → List PStep → List (List PStep × VT)
 | [],_,_ => []
 | t :: r,K,p => lfT t (p ++ [lky (K.headD ⟨#[]⟩)]) ++ lfM r K.tail p
end
theorem lfT_at (T : VT) (p : List PStep) : lfT T p = if T.kd = 5 ∧ 0 < T.ls.length then lfL T.ls 0 p else if T.kd = 6 ∧ 0 < T.vs.length then lfM T.vs T.ks p else [(p,T)] := by
 cases T with
 | mk k n s L K V => rw [lfT]; rfl
theorem lfL_snoc (t : VT) (p : List PStep) : ∀ (A : List VT) (i : Nat),lfL (A ++ [t]) i p = lfL A i p ++ lfT t (p ++ [lpl (i + A.length)])
 | [],i => by simp [lfL]
 | a :: A,i => by
  show lfT a _ ++ lfL (A ++ [t]) (i + 1) p = _
  rw [lfL_snoc t p A (i + 1)]
  show _ = (lfT a _ ++ lfL A (i + 1) p) ++ _
  rw [List.append_assoc,List.length_cons,show i + 1 + A.length = i + (A.length + 1) by omega]
theorem lfM_snoc (t : VT) (p : List PStep) : ∀ (A : List VT) (K : List ByteArray) (c : ByteArray),K[A.length]? = some c → lfM (A ++ [t]) K p = lfM A K p ++ lfT t (p ++ [lky c])
 | [],K,c,h => by
  cases K with
  | nil => simp at h
  | cons d K => simp at h; subst h; simp [lfM]
 | a :: A,K,c,h => by
  show lfT a _ ++ lfM (A ++ [t]) K.tail p = _
  rw [lfM_snoc t p A K.tail c (by cases K with | nil => simp at h | cons d K => simpa using h)]
  show _ = (lfT a _ ++ lfM A K.tail p) ++ _
  rw [List.append_assoc]
mutual
theorem lfT_len : ∀ (T : VT) (p : List PStep),(lfT T p).length ≤ szT T
 | .mk k _ _ L K V,p => by
  have h1 := lfL_len L 0 p
  have h2 := lfM_len V K p
  simp only [lfT,szT]
  split
  ·omega
  ·split
   ·omega
   ·simp only [List.length_cons,List.length_nil]; omega
theorem lfL_len : ∀ (L : List VT) (i : Nat) (p : List PStep),(lfL L i p).length ≤ szL L
 | [],_,_ => Nat.zero_le _
 | t :: r,i,p => by
  have h1 := lfT_len t (p ++ [lpl i])
  have h2 := lfL_len r (i + 1) p
  simp only [lfL,szL,List.length_append]; omega
theorem lfM_len : ∀ (V : List VT) (K : List ByteArray) (p : List PStep),(lfM V K p).length ≤ szL V
 | [],_,_ => Nat.zero_le _
 | t :: r,K,p => by
  have h1 := lfT_len t (p ++ [lky (K.headD ⟨#[]⟩)])
  have h2 := lfM_len r K.tail p
  simp only [lfM,szL,List.length_append]; omega
end
theorem ndc_len {T : VT} (h : nodeB T = true) : (T.kd = 5 ∨ T.ls = []) ∧ (T.kd = 6 ∨ T.vs = []) := by
 cases T with
 | mk k n s L K V =>
 show (k = 5 ∨ L = []) ∧ (k = 6 ∨ V = [])
 change nodeC k n (n == 0) s.toList.isEmpty ((L.length : Int) == 0) ((V.length : Int) == 0) (numB s.data.toList && !intB s.data.toList) (teI s == 0) (stampB s) (keysB K) = true at h
 unfold nodeC at h
 by_cases h5 : k = 5
 ·refine ⟨Or.inl h5,Or.inr ?_⟩
  subst h5
  rw [if_neg (by decide),if_neg (by decide),if_neg (by decide),if_neg (by decide),if_neg (by decide),if_neg (by decide),if_pos rfl] at h
  simp only [Bool.and_eq_true,beq_iff_eq] at h
  exact List.eq_nil_of_length_eq_zero (by omega)
 ·by_cases h6 : k = 6
  ·refine ⟨Or.inr ?_,Or.inl h6⟩
   subst h6
   rw [if_neg (by decide),if_neg (by decide),if_neg (by decide),if_neg (by decide),if_neg (by decide),if_neg (by decide),if_neg (by decide),if_pos rfl] at h
   simp only [Bool.and_eq_true,beq_iff_eq] at h
   exact List.eq_nil_of_length_eq_zero (by omega)
  ·have key : ((L.length : Int) == 0) = true ∧ ((V.length : Int) == 0) = true := by
    rw [if_neg h5,if_neg h6] at h
    repeat' (split at h)
    all_goals first
     | (simp only [Bool.and_eq_true] at h; exact ⟨h.1.2,h.2⟩)
     | (cases h)
   rw [beq_iff_eq,beq_iff_eq] at key
   exact ⟨Or.inr (List.eq_nil_of_length_eq_zero (by omega)),Or.inr (List.eq_nil_of_length_eq_zero (by omega))⟩
theorem leaf_bare {T : VT} (h : plainT T = true) (h1 : ¬ (T.kd = 5 ∧ 0 < T.ls.length)) (h2 : ¬ (T.kd = 6 ∧ 0 < T.vs.length)) : T.ls = [] ∧ T.vs = [] := by
 rw [plainT_eq] at h
 simp only [Bool.and_eq_true] at h
 obtain ⟨a,b⟩ := ndc_len h.1.1
 refine ⟨?_,?_⟩
 ·rcases a with a | a
  ·exact List.eq_nil_of_length_eq_zero (by omega)
  ·exact a
 ·rcases b with b | b
  ·exact List.eq_nil_of_length_eq_zero (by omega)
  ·exact b
end Go.Proofs.YteimbjamnfkapaaGreatDoor
/- flat: the walk through a tree: what it holds in memory; a part entered. -/
namespace Go.Proofs.YteimbjamnfkapaaGreatDoor
open Go.RowKit
structure LE where
 p : List PStep
 T : VT
 u : Value
 x : Value
 y : Value
def LE.pt (e : LE) : List PStep × VT := (e.p,e.T)
def lcE (e : LE) : List Value := [e.u,.int .i64 e.T.kd,.int .i64 e.T.nm,.string e.T.st,e.x,e.y]
def Bare (e : LE) : Prop := (e.T.ls = [] ∧ e.T.vs = []) ∧ ∀ w,HV w e.T e.x e.y
theorem hv_bare {w w' : World} {T : VT} {x y : Value} (h : HV w T x y) (h1 : T.ls = []) (h2 : T.vs = []) : HV w' T x y := by
 cases h with
 | mk a b f g p q hk hn hs hL hM hK cL cK cM rL rM =>
  simp only [VT.ls,VT.vs] at h1 h2
  subst h1 h2
  have hK0 := List.eq_nil_of_length_eq_zero hK
  subst hK0
  exact .mk a b f g p q hk hn hs hL hM hK (fun i t h => by simp at h) (fun i u h => by simp at h) (fun i t h => by simp at h) (fun i t h => by simp at h) (fun i t h => by simp at h)
def OwnF (W w : World) (v : Value) (E : List LE) : Prop := w.ownsRow W.heap.size 43 6 v E.length (E.flatMap lcE)
structure Lk (W : World) (b : Nat) (nv pv : Value) (now : List PStep) (E : List LE) (w : World) : Prop where
 bel : Below W.heap.size W w
 lo : W.heap.size ≤ b
 box : w.heap[b]? = some (.cells #[nv,pv] 109 (0,0))
 ns : OwnS W w nv now
 ps : OwnF W w pv E
 es : ∀ e ∈ E,OwnS W w e.u e.p ∧ (e.u.ownBlock = none ∨ e.u.ownBlock ≠ nv.ownBlock)
 bs : ∀ e ∈ E,Bare e
theorem Lk.onto {W : World} {b : Nat} {nv pv : Value} {now : List PStep} {E : List LE} {w w' : World} (h : Lk W b nv pv now E w) (hb : Below w.heap.size w w') : Lk W b nv pv now E w' :=
 ⟨vonto h.bel hb,h.lo,by rw [hb.block b (Array.getElem?_eq_some_iff.1 h.box).1]; exact h.box,ownsRow_below h.ns hb,ownsRow_below h.ps hb,fun e he => ⟨ownsRow_below (h.es e he).1 hb,(h.es e he).2⟩,h.bs⟩
theorem Lk.lt {W : World} {b : Nat} {nv pv : Value} {now : List PStep} {E : List LE} {w : World} (h : Lk W b nv pv now E w) : b < w.heap.size := (Array.getElem?_eq_some_iff.1 h.box).1
theorem lbox_set {w : World} {b : Nat} {c : Array Value} {ty : TypeId} {fz : Nat × Nat} (h : w.heap[b]? = some (.cells c ty fz)) (o : Nat) (u : Value) : (w.setCell ⟨b,o,none⟩ u).heap[b]? = some (.cells (c.setIfInBounds o u) ty fz) := by
 simp [World.setCell,Array.getElem?_modify,h]
theorem Lk.more {W : World} {b : Nat} {nv pv : Value} {now : List PStep} {E : List LE} {w w3 : World} {pv' : Value} (e : LE) (h : Lk W b nv pv now E w) (hu : OwnS W w e.u e.p) (hun : e.u.ownBlock = none ∨ e.u.ownBlock ≠ nv.ownBlock) (hB : Bare e)
  (h3 : w3.ownsRow W.heap.size 43 6 pv' (E.length + 1) (E.flatMap lcE ++ lcE e)) (hg : w.grownBy w3 pv.ownBlock) : Lk W b nv pv' now (E ++ [e]) (w3.setCell ⟨b,1,none⟩ pv') := by
 have hbne : pv.ownBlock = none ∨ pv.ownBlock ≠ some b := own_off h.ps h.box (by decide)
 have hbx : w3.heap[b]? = some (.cells #[nv,pv] 109 (0,0)) := by
  rw [hg.block b h.lt (off_ne hbne)]
  exact h.box
 have keep : ∀ {v : Value} {q : List PStep},OwnS W w v q → OwnS W (w3.setCell ⟨b,1,none⟩ pv') v q := fun {v q} hv => by
  have h1 : OwnS W w3 v q := hv.kept hg (own_ne hv h.ps (by decide))
  exact h1.kept (set_grownW w3 b 1 pv') (own_off h1 hbx (by decide))
 refine ⟨?_,h.lo,by rw [lbox_set hbx]; rfl,keep h.ns,?_,?_,?_⟩
 ·exact vset_bel (h.bel.grown hg (by have := h.bel.size; omega) (fun q hq => (h.ps.lt q hq).1)) h.lo
 ·have := h3.kept (set_grownW w3 b 1 pv') (own_off h3 hbx (by decide))
  simpa [OwnF] using this
 ·intro e' he
  rcases List.mem_append.1 he with he | he
  ·exact ⟨keep (h.es e' he).1,(h.es e' he).2⟩
  ·simp at he; subst he; exact ⟨keep hu,hun⟩
 ·intro e' he
  rcases List.mem_append.1 he with he | he
  ·exact h.bs e' he
  ·simp at he; subst he; exact hB
theorem Lk.down {W : World} {b : Nat} {nv pv : Value} {now : List PStep} {E : List LE} {w w3 : World} {g cap : Nat} {s : PStep} (h : Lk W b nv pv now E w)
  (h3 : w3.ownsRow W.heap.size 78 3 (.slice (some ⟨g,0,none⟩) (now.length + 1) cap) (now.length + 1) (now.flatMap sc ++ sc s)) (hg : w.grownBy w3 nv.ownBlock) (hw : nv.ownBlock = some g ∨ g = w.heap.size) :
  Lk W b (.slice (some ⟨g,0,none⟩) (now.length + 1) cap) pv (now ++ [s]) E (w3.setCell ⟨b,0,none⟩ (.slice (some ⟨g,0,none⟩) (now.length + 1) cap)) := by
 have hbne : nv.ownBlock = none ∨ nv.ownBlock ≠ some b := own_off h.ns h.box (by decide)
 have hbx : w3.heap[b]? = some (.cells #[nv,pv] 109 (0,0)) := by
  rw [hg.block b h.lt (off_ne hbne)]
  exact h.box
 refine ⟨?_,h.lo,by rw [lbox_set hbx]; rfl,?_,?_,?_,h.bs⟩
 ·exact vset_bel (h.bel.grown hg (by have := h.bel.size; omega) (fun q hq => (h.ns.lt q hq).1)) h.lo
 ·have := h3.kept (set_grownW w3 b 0 (.slice (some ⟨g,0,none⟩) (now.length + 1) cap)) (own_off h3 hbx (by decide))
  simpa [OwnS] using this
 ·have h1 := h.ps.kept hg (own_ne h.ps h.ns (by decide))
  exact h1.kept (set_grownW w3 b 0 _) (own_off h1 hbx (by decide))
 ·intro e he
  obtain ⟨k1,k2⟩ := h.es e he
  have k3 := k1.kept hg k2
  refine ⟨k3.kept (set_grownW w3 b 0 _) (own_off k3 hbx (by decide)),?_⟩
  rcases hw with hw | hw
  ·rw [hw] at k2; exact k2
  ·exact own_neq k1 g rfl (.inr (by omega))
theorem Lk.up {W : World} {b g cap : Nat} {pv : Value} {now : List PStep} {s : PStep} {E : List LE} {w : World} (h : Lk W b (.slice (some ⟨g,0,none⟩) (now.length + 1) cap) pv (now ++ [s]) E w) :
  Lk W b (.slice (some ⟨g,0,none⟩) now.length cap) pv now E (w.setCell ⟨b,0,none⟩ (.slice (some ⟨g,0,none⟩) now.length cap)) := by
 have hns : OwnS W w (.slice (some ⟨g,0,none⟩) now.length cap) now := by
  rcases h.ns.2 with ⟨e,-⟩ | ⟨g',cap',cur,e,hb,hgg,h1,h2,h3,h4⟩
  ·cases e
  ·injection e with e1 e2 e3
   injection e1 with e1
   injection e1 with e1
   subst e1 e3
   simp only [List.length_append,List.length_singleton] at h1 h4
   refine ⟨sc_len now,.inr ⟨g,cap,cur,rfl,hb,hgg,by omega,h2,h3,?_⟩⟩
   have := congrArg (List.take (now.length * 3)) h4
   rw [List.take_take,Nat.min_eq_left (by omega),List.flatMap_append,← sc_len now,List.take_left] at this
   rw [← sc_len now]
   exact this
 have hbx := h.box
 refine ⟨vset_bel h.bel h.lo,h.lo,by rw [lbox_set hbx]; rfl,hns.kept (set_grownW w b 0 _) (own_off hns hbx (by decide)),h.ps.kept (set_grownW w b 0 _) (own_off h.ps hbx (by decide)),fun e he => ?_,h.bs⟩
 obtain ⟨k1,k2⟩ := h.es e he
 exact ⟨k1.kept (set_grownW w b 0 _) (own_off k1 hbx (by decide)),k2⟩
theorem lk_new (w : World) (o : Obj) : Lk w (w.heap.size + 1) (.slice none 0 0) (.slice none 0 0) [] [] ((w.alloc o).alloc (.cells #[.slice none 0 0,.slice none 0 0] 109)) := by
 refine ⟨valloc_bel (valloc_bel (Below.refl _ _) _) _,by omega,?_,World.ownsRow_nil _ _ _ _,World.ownsRow_nil _ _ _ _,(fun e he => by simp at he),(fun e he => by simp at he)⟩
 rw [← World.size_alloc w o]
 simp only [World.alloc,Array.getElem?_push_size]
end Go.Proofs.YteimbjamnfkapaaGreatDoor
namespace Go.Proofs.YteimbjamnfkapaaGreatDoor
open Go.RowKit
def LVisitOk (W : World) (T : VT) : Prop := plainT T = true → ∀ (x y : Value) (b : Nat) (nv pv' : Value) (now : List PStep) (E : List LE) (w : World),HV W T x y → Lk W b nv pv' now E w → now.length + szT T ≤ 2000000 → E.length + szT T ≤ 2000000 →
 Calls Tryz.prog 56 #[.pointer (some ⟨b,0,none⟩),vv T x y] w fun e w' => e = .returned (.tuple #[]) ∧ ∃ nv2 pv2 E2,Lk W b nv2 pv2 now E2 w' ∧ E2.map LE.pt = E.map LE.pt ++ lfT T now
theorem Lk.cells {W : World} {b : Nat} {nv pv' : Value} {now : List PStep} {E : List LE} {w : World} (h : Lk W b nv pv' now E w) : w.cell? ⟨b,0,none⟩ = some nv ∧ w.cell? ⟨b,1,none⟩ = some pv' ∧ ∀ o,w.frozen? ⟨b,o,none⟩ = false := by
 have hb := h.box
 refine ⟨?_,?_,fun o => ?_⟩
 ·rw [cell_of_row w b 0 _ _ _ hb]; rfl
 ·rw [cell_of_row w b 1 _ _ _ hb]; rfl
 ·simp [World.frozen?,hb]
theorem Lk.slices {W : World} {b : Nat} {nv pv' : Value} {now : List PStep} {E : List LE} {w : World} (h : Lk W b nv pv' now E w) : (∃ o c,nv = .slice o now.length c) ∧ ∃ o c,pv' = .slice o E.length c := by
 constructor
 ·rcases h.ns.2 with ⟨rfl,e⟩ | ⟨g,cap,cur,rfl,-⟩
  ·exact ⟨none,0,by rw [e]⟩
  ·exact ⟨_,_,rfl⟩
 ·rcases h.ps.2 with ⟨rfl,e⟩ | ⟨g,cap,cur,rfl,-⟩
  ·exact ⟨none,0,by rw [e]⟩
  ·exact ⟨_,_,rfl⟩
set_option maxRecDepth 100000 in
set_option maxHeartbeats 1000000 in
theorem lenter_any (W : World) (T : VT) (hV : LVisitOk W T) (s : PStep) (x y : Value) (b : Nat) (nv pv' : Value) (now : List PStep) (E : List LE) (w : World) (hP : plainT T = true) (hT : HV W T x y) (hW : Lk W b nv pv' now E w) (hn : now.length + 1 + szT T ≤ 2000000) (hE : E.length + szT T ≤ 2000000) :
  Calls Tryz.prog 102 #[.pointer (some ⟨b,0,none⟩),pv s,vv T x y] w fun e w' => e = .returned (.tuple #[]) ∧ ∃ nv2 pv2 E2,Lk W b nv2 pv2 now E2 w' ∧ E2.map LE.pt = E.map LE.pt ++ lfT T (now ++ [s]) := by
 obtain ⟨o1,n1,c1,o2,n2,c2,rfl,rfl⟩ := hv_slices hT
 obtain ⟨i1,hi',hz0',hz1',hz2'⟩ := info_parts Tryz.infoPst
 obtain ⟨⟨on,cn,rfl⟩,⟨op,cp,rfl⟩⟩ := hW.slices
 have HV0 := hid hV
 have HT := hid hT
 have HW := hid (fun X (hX : Below w.heap.size w X) => hW.onto hX)
 have hlt := hW.lt
 obtain ⟨key,at_,pl⟩ := s
 have hs1 : w.heap.size ≠ b := by omega
 clear hV hT hW
 simp only [vv,pv]
 go_enter Tryz.func102,Tryz.ntmps102
 go_wp2_with fail
 have hb0 : Below w.heap.size w ((w.alloc (.cells #[.string key,.int .i64 at_,.bool pl] 78)).alloc (.cells #[.int .i64 T.kd,.int .i64 T.nm,.string T.st,.slice o1 n1 c1,.slice o2 n2 c2] 29)) := valloc_bel (valloc_bel (Below.refl _ _) _) _
 have HK : Hid (∀ X,Lk W b (.slice on now.length cn) (.slice op E.length cp) now E X → Below (w.heap.size + 1) ((w.alloc (.cells #[.string key,.int .i64 at_,.bool pl] 78))) X → X.cell? ⟨b,0,none⟩ = some (.slice on now.length cn) ∧ X.cell? ⟨w.heap.size,0,none⟩ = some (.string key) ∧ X.cell? ⟨w.heap.size,1,none⟩ = some (.int .i64 at_) ∧ X.cell? ⟨w.heap.size,2,none⟩ = some (.bool pl)) := fun X h1 h2 => ⟨h1.cells.1,by rw [h2.cell (by simp)]; simp,by rw [h2.cell (by simp)]; simp,by rw [h2.cell (by simp)]; simp⟩
 have hb1 : Below (w.heap.size + 1) (w.alloc (.cells #[.string key,.int .i64 at_,.bool pl] 78)) ((w.alloc (.cells #[.string key,.int .i64 at_,.bool pl] 78)).alloc (.cells #[.int .i64 T.kd,.int .i64 T.nm,.string T.st,.slice o1 n1 c1,.slice o2 n2 c2] 29)) := (Below.refl _ _).alloc (by simp) _
 have hwk := HW.out _ hb0
 have hns := hwk.ns
 have hS0 := HK.out _ hwk hb1
 generalize hw0 : ((w.alloc (.cells #[.string key,.int .i64 at_,.bool pl] 78)).alloc (.cells #[.int .i64 T.kd,.int .i64 T.nm,.string T.st,.slice o1 n1 c1,.slice o2 n2 c2] 29)) = w0 at *
 have hsz0 : w0.heap.size = w.heap.size + 2 := by rw [← hw0]; simp
 refine wp_region_ends2 (S := fun X => X.cell? ⟨b,0,none⟩ = some (.slice on now.length cn) ∧ X.cell? ⟨w.heap.size,0,none⟩ = some (.string key) ∧ X.cell? ⟨w.heap.size,1,none⟩ = some (.int .i64 at_) ∧ X.cell? ⟨w.heap.size,2,none⟩ = some (.bool pl)) (by simp) (by kernel_rfl) (by kernel_rfl) (by kernel_rfl) (by kernel_rfl) (by kernel_rfl) (by kernel_rfl) ?_
 simp only [List.dropLast,List.getLast_cons_cons,List.getLast_singleton,List.length_cons,List.length_nil]
 replace hS0 : w0.drew.cell? ⟨b,0,none⟩ = some (.slice on now.length cn) ∧ w0.drew.cell? ⟨w.heap.size,0,none⟩ = some (.string key) ∧ w0.drew.cell? ⟨w.heap.size,1,none⟩ = some (.int .i64 at_) ∧ w0.drew.cell? ⟨w.heap.size,2,none⟩ = some (.bool pl) := hS0
 refine take_h (i := 0) (v := ?_) rfl (by kernel_rfl) (by kernel_rfl) (by kernel_rfl) (fun _ _ _ h => h) (by rfl) ?_ hS0 ?_
 rotate_left
 ·(intro X hX; go_simp; try with_reducible rfl)
 simp only [Act.put,List.setIfInBounds_toArray,List.set_cons_zero,List.set_cons_succ]
 refine take_h (i := 1) (v := ?_) rfl (by kernel_rfl) (by kernel_rfl) (by kernel_rfl) (fun _ _ _ h => h) (by rfl) ?_ hS0 ?_
 rotate_left
 ·(intro X hX; go_simp; try with_reducible rfl)
 simp only [Act.put,List.setIfInBounds_toArray,List.set_cons_zero,List.set_cons_succ]
 refine take_h (i := 2) (v := ?_) rfl (by kernel_rfl) (by kernel_rfl) (by kernel_rfl) (fun _ _ _ h => h) (by rfl) ?_ hS0 ?_
 rotate_left
 ·(intro X hX; go_simp; try with_reducible rfl)
 simp only [Act.put,List.setIfInBounds_toArray,List.set_cons_zero,List.set_cons_succ]
 refine take_h (i := 3) (v := ?_) rfl (by kernel_rfl) (by kernel_rfl) (by kernel_rfl) (fun _ _ _ h => h) (by rfl) ?_ hS0 ?_
 rotate_left
 ·(intro X hX; go_simp; try with_reducible rfl)
 simp only [Act.put,List.setIfInBounds_toArray,List.set_cons_zero,List.set_cons_succ]
 refine take_h (i := 4) (v := ?_) rfl (by kernel_rfl) (by kernel_rfl) (by kernel_rfl) (fun _ _ _ h => h) (by rfl) ?_ hS0 ?_
 rotate_left
 ·(intro X hX; go_simp; try with_reducible rfl)
 simp only [Act.put,List.setIfInBounds_toArray,List.set_cons_zero,List.set_cons_succ]
 refine take_h (i := 5) (v := ?_) rfl (by kernel_rfl) (by kernel_rfl) (by kernel_rfl) (fun _ _ _ h => h) (by rfl) ?_ hS0 ?_
 rotate_left
 ·(intro X hX; go_simp; try with_reducible rfl)
 simp only [Act.put,List.setIfInBounds_toArray,List.set_cons_zero,List.set_cons_succ]
 refine step_h (i := 6) rfl (by kernel_rfl) ?_
 intro KK hKK
 go_simp
 have hbx : Below w0.heap.size w0 (w0.drew.alloc (.cells #[.string key,.int .i64 at_,.bool pl] 78)) := valloc_bel (Below.refl w0.heap.size w0).drew _
 refine hKK.out _ _ ⟨keepCell hbx hS0.1,keepCell hbx hS0.2.1,keepCell hbx hS0.2.2.1,keepCell hbx hS0.2.2.2⟩ (fun hS2 => ?_)
 clear hKK KK
 refine step_h (i := 7) rfl (by kernel_rfl) ?_
 intro KK hKK
 have hnl : ∀ k,(Value.slice on now.length cn).ownBlock = some k → k < w.heap.size := fun k hk => ((HW.out w (Below.refl _ _)).ns.lt k hk).2
 have hwx := hwk.onto hbx
 refine step_append_lies _ (by rfl) _ _ _ (by rfl) W.heap.size 78 i1 (.agg #[.string ⟨#[]⟩,.int .i64 0,.bool false]) 3 32 Tryz.underlying41 hi' hz0' hz1' hz2' rfl (by decide) _ now.length _ (by rfl) hwx.ns ⟨w.heap.size + 2,0,none⟩ 1 1 (sc ⟨key,at_,pl⟩) (by rfl) rfl (by rw [← hsz0]; exact new_cells w0.drew _ 78) (sc_one _) (by decide) (by unfold maxLen; omega) (by omega) (by have := hwx.bel.size; exact this) (w0.heap.size + 1) (by simp) ?_
 intro g9 cap9 w9 hown9 hgr9 hat9 hlt9
 have hk9 : ∀ (k o : Nat) (u : Value),w.heap.size ≤ k → w0.cell? ⟨k,o,none⟩ = some u → w9.cell? ⟨k,o,none⟩ = some u := fun k o u h1 h2 => by
  have h3 := keepCell hbx h2
  have hlt3 : k < (w0.drew.alloc (.cells #[.string key,.int .i64 at_,.bool pl] 78)).heap.size := by
   rcases Nat.lt_or_ge k (w0.drew.alloc (.cells #[.string key,.int .i64 at_,.bool pl] 78)).heap.size with hh | hh
   ·exact hh
   ·simp [World.cell?,Array.getElem?_eq_none hh] at h3
  rw [World.cell?_of_block (hgr9.block k hlt3 (fun e => by have := hnl k e.symm; omega))]
  exact h3
 have hd := hwx.down (s := ⟨key,at_,pl⟩) (by simpa using hown9) hgr9 (hat9.imp id (fun h => by rw [h]; simp))
 have hb9 : w9.cell? ⟨b,0,none⟩ = some (.slice on now.length cn) := by
  rw [World.cell?_of_block (hgr9.block b hwx.lt (off_ne (own_off hwx.ns hwx.box (by decide))))]
  exact hwx.cells.1
 refine hKK.out _ _ ⟨hb9,hk9 _ _ _ (Nat.le_refl _) hS0.2.1,hk9 _ _ _ (Nat.le_refl _) hS0.2.2.1,hk9 _ _ _ (Nat.le_refl _) hS0.2.2.2⟩ (fun hS3 => ?_)
 clear hKK KK hS2
 simp only [Act.put,List.setIfInBounds_toArray,List.set_cons_zero,List.set_cons_succ]
 refine take_h (i := 8) (v := ?_) rfl (by kernel_rfl) (by kernel_rfl) (by kernel_rfl) (fun _ _ _ h => h) (by rfl) ?_ hS3 ?_
 rotate_left
 ·(intro X hX; go_simp; try with_reducible rfl)
 simp only [Act.put,List.setIfInBounds_toArray,List.set_cons_zero,List.set_cons_succ]
 refine take_h (i := 9) (v := ?_) rfl (by kernel_rfl) (by kernel_rfl) (by kernel_rfl) (fun _ _ _ h => h) (by rfl) ?_ hS3 ?_
 rotate_left
 ·(intro X hX; go_simp; try with_reducible rfl)
 simp only [Act.put,List.setIfInBounds_toArray,List.set_cons_zero,List.set_cons_succ]
 refine wpAnyH_done (by kernel_rfl) ?_ _
 change Oper.wp _ _ _ _ _ _
 have hf9 : w9.frozen? ⟨b,0,none⟩ = false := by
  have h1 := (hgr9.block b hwx.lt (off_ne (own_off hwx.ns hwx.box (by decide)))).trans hwx.box
  simp [World.frozen?,h1]
 have hv : ∀ (o : Nat) (u : Value),w0.cell? ⟨w.heap.size + 1,o,none⟩ = some u → (w9.setCell ⟨b,0,none⟩ (.slice (some ⟨g9,0,none⟩) (now.length + 1) cap9)).cell? ⟨w.heap.size + 1,o,none⟩ = some u := fun o u h => by
  rw [set_other _ _ _ _ _ _ (.inl (by omega))]; exact hk9 _ _ _ (by omega) h
 have v0 := hv 0 (.int .i64 T.kd) (by rw [← hw0]; simp)
 have v1 := hv 1 (.int .i64 T.nm) (by rw [← hw0]; simp)
 have v2 := hv 2 (.string T.st) (by rw [← hw0]; simp)
 have v3 := hv 3 (.slice o1 n1 c1) (by rw [← hw0]; simp)
 have v4 := hv 4 (.slice o2 n2 c2) (by rw [← hw0]; simp)
 have hbd := hd.bel
 have C := hid (HV0.out hP _ _ b _ _ _ _ _ HT.out hd (by simp; omega) (by omega))
 simp only [vv] at C
 clear hd hv hk9 hgr9 hown9 hS0 hS3 hwx hwk hns HK HW hbx hb0 hb1 hw0
 go_simp
 generalize w9.setCell ⟨b,0,none⟩ (.slice (some ⟨g9,0,none⟩) (now.length + 1) cap9) = wA at *
 go_wp2_with fail
 go_at_call 56
 refine C.out.mono ?_
 rintro e w2 ⟨rfl,nv2,pv2,E2,hw2,hE2⟩
 obtain ⟨g2,cap2,rfl,hc2⟩ : ∃ g2 cap2,nv2 = .slice (some ⟨g2,0,none⟩) (now.length + 1) cap2 ∧ now.length + 1 ≤ cap2 := by
  rcases hw2.ns.2 with ⟨-,e⟩ | ⟨g,cap,cur,rfl,-,-,h1,-⟩
  ·simp at e
  ·simp at h1; exact ⟨g,cap,by simp,h1⟩
 obtain ⟨q0,q1,qf⟩ := hw2.cells
 have HU := hid hw2.up
 have HE2 := hid hE2
 clear hw2 hE2 C
 go_wp2_with fail
 refine wp_region_ends2 (S := fun X => X.cell? ⟨b,0,none⟩ = some (.slice (some ⟨g2,0,none⟩) (now.length + 1) cap2)) (by simp) (by kernel_rfl) (by kernel_rfl) (by kernel_rfl) (by kernel_rfl) (by kernel_rfl) (by kernel_rfl) ?_
 simp only [List.dropLast,List.getLast_cons_cons,List.getLast_singleton,List.length_cons,List.length_nil]
 have hS0 : w2.drew.cell? ⟨b,0,none⟩ = some (.slice (some ⟨g2,0,none⟩) (now.length + 1) cap2) := q0
 have hwr : IntKind.i64.wrap (now.length : Int) = now.length := by rw [IntKind.wrap_i64]; omega
 refine take_h (i := 0) (v := ?_) rfl (by kernel_rfl) (by kernel_rfl) (by kernel_rfl) (fun _ _ _ h => h) (by rfl) ?_ hS0 ?_
 rotate_left
 ·(intro X hX; go_simp; try with_reducible rfl)
 simp only [Act.put,List.setIfInBounds_toArray,List.set_cons_zero,List.set_cons_succ]
 refine take_h (i := 1) (v := ?_) rfl (by kernel_rfl) (by kernel_rfl) (by kernel_rfl) (fun _ _ _ h => h) (by rfl) ?_ hS0 ?_
 rotate_left
 ·(intro X hX; go_simp; try with_reducible rfl)
 simp only [Act.put,List.setIfInBounds_toArray,List.set_cons_zero,List.set_cons_succ]
 refine take_h (i := 2) (v := ?_) rfl (by kernel_rfl) (by kernel_rfl) (by kernel_rfl) (fun _ _ _ h => h) (by rfl) ?_ hS0 ?_
 rotate_left
 ·(intro X hX; go_simp; try with_reducible rfl)
 simp only [Act.put,List.setIfInBounds_toArray,List.set_cons_zero,List.set_cons_succ]
 refine take_h (i := 3) (v := ?_) rfl (by kernel_rfl) (by kernel_rfl) (by kernel_rfl) (fun _ _ _ h => h) (by rfl) ?_ hS0 ?_
 rotate_left
 ·(intro X hX; go_simp; try with_reducible rfl)
 simp only [Act.put,List.setIfInBounds_toArray,List.set_cons_zero,List.set_cons_succ]
 refine take_h (i := 4) (v := ?_) rfl (by kernel_rfl) (by kernel_rfl) (by kernel_rfl) (fun _ _ _ h => h) (by rfl) ?_ hS0 ?_
 rotate_left
 ·(intro X hX; go_simp; try with_reducible rfl)
 simp only [Act.put,List.setIfInBounds_toArray,List.set_cons_zero,List.set_cons_succ]
 refine take_h (i := 5) (v := ?_) rfl (by kernel_rfl) (by kernel_rfl) (by kernel_rfl) (fun _ _ _ h => h) (by rfl) ?_ hS0 ?_
 rotate_left
 ·(intro X hX; go_simp; try with_reducible rfl)
 simp only [Act.put,List.setIfInBounds_toArray,List.set_cons_zero,List.set_cons_succ]
 refine take_h (i := 6) (v := ?_) rfl (by kernel_rfl) (by kernel_rfl) (by kernel_rfl) (fun _ _ _ h => h) (by rfl) ?_ hS0 ?_
 rotate_left
 ·(intro X hX; go_simp; try with_reducible rfl)
 simp only [Act.put,List.setIfInBounds_toArray,List.set_cons_zero,List.set_cons_succ]
 refine take_h (i := 7) (v := ?_) rfl (by kernel_rfl) (by kernel_rfl) (by kernel_rfl) (fun _ _ _ h => h) (by rfl) ?_ hS0 ?_
 rotate_left
 ·(intro X hX; go_simp; try with_reducible rfl)
 simp only [Act.put,List.setIfInBounds_toArray,List.set_cons_zero,List.set_cons_succ]
 refine take_h (i := 8) (v := ?_) rfl (by kernel_rfl) (by kernel_rfl) (by kernel_rfl) (fun _ _ _ h => h) (by rfl) ?_ hS0 ?_
 rotate_left
 ·(intro X hX; go_simp; try with_reducible rfl)
 simp only [Act.put,List.setIfInBounds_toArray,List.set_cons_zero,List.set_cons_succ]
 refine take_h (i := 9) (v := ?_) rfl (by kernel_rfl) (by kernel_rfl) (by kernel_rfl) (fun _ _ _ h => h) (by rfl) ?_ hS0 ?_
 rotate_left
 ·(intro X hX; go_simp; try with_reducible rfl)
 simp only [Act.put,List.setIfInBounds_toArray,List.set_cons_zero,List.set_cons_succ]
 refine take_h (i := 10) (v := .int .i64 (now.length : Int)) rfl (by kernel_rfl) (by kernel_rfl) (by kernel_rfl) (fun _ _ _ h => h) (by rfl) ?_ hS0 ?_
 ·(intro X hX; go_simp)
 simp only [Act.put,List.setIfInBounds_toArray,List.set_cons_zero,List.set_cons_succ]
 refine take_h (i := 11) (v := .slice (some ⟨g2,0,none⟩) now.length cap2) rfl (by kernel_rfl) (by kernel_rfl) (by kernel_rfl) (fun _ _ _ h => h) (by rfl) ?_ hS0 ?_
 ·(intro X hX; go_simp; try (intro hh; exact absurd hh (by omega)))
 simp only [Act.put,List.setIfInBounds_toArray,List.set_cons_zero,List.set_cons_succ]
 refine take_h (i := 12) (v := ?_) rfl (by kernel_rfl) (by kernel_rfl) (by kernel_rfl) (fun _ _ _ h => h) (by rfl) ?_ hS0 ?_
 rotate_left
 ·(intro X hX; go_simp; try with_reducible rfl)
 simp only [Act.put,List.setIfInBounds_toArray,List.set_cons_zero,List.set_cons_succ]
 refine take_h (i := 13) (v := ?_) rfl (by kernel_rfl) (by kernel_rfl) (by kernel_rfl) (fun _ _ _ h => h) (by rfl) ?_ hS0 ?_
 rotate_left
 ·(intro X hX; go_simp; try with_reducible rfl)
 simp only [Act.put,List.setIfInBounds_toArray,List.set_cons_zero,List.set_cons_succ]
 refine wpAnyH_done (by kernel_rfl) ?_ _
 change Oper.wp _ _ _ _ _ _
 go_simp
 go_wp2_with fail
 refine bodyPost_end (v := .tuple #[]) (by simp [results,Tryz.results102,go_sem]) rfl ?_
 exact ⟨rfl,_,_,E2,HU.out.onto (Below.refl _ _).drew,HE2.out⟩
end Go.Proofs.YteimbjamnfkapaaGreatDoor
