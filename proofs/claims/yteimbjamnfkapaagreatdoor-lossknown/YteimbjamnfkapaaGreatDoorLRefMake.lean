import Derived.Test.YteimbjamnfkapaaGreatDoorLOwnB
import Derived.Test.YteimbjamnfkapaaGreatDoorLVCopyAll
import Derived.Deep.LoopGhost
import Derived.Test.YteimbjamnfkapaaGreatDoorLPathDoc
import Derived.Deep.RegionHeldLaw
import Derived.Test.YteimbjamnfkapaaGreatDoorLOrders
import Derived.Deep.RegionHeld
import Derived.Test.YteimbjamnfkapaaGreatDoorLFlA
import Derived.Test.YteimbjamnfkapaaGreatDoorLVPlus
/- spoil, walked: it changes nothing but the blocks of what it is handed. -/
/- The document's own Copy of a tree, walked. -/
/- The document's own Copy of a tree, walked: the walk. -/
/- A map's pairs as a list of entries; pairs that rise have but one order; a slice of one's own that holds pairs. -/
/- The document's own With: a map with one key more, or another value for a key; walked. -/
/- With on rising keys: one key more in its place, or the same keys; what Map makes of the same keys. -/
namespace Go.Proofs.YteimbjamnfkapaaGreatDoor
open Go.RowKit
def Bx5 (w : World) (b : Nat) (v0 v1 v2 v3 v4 : Value) : Prop := w.cell? ⟨b,0,none⟩ = some v0 ∧ w.cell? ⟨b,1,none⟩ = some v1 ∧ w.cell? ⟨b,2,none⟩ = some v2 ∧ w.cell? ⟨b,3,none⟩ = some v3 ∧ w.cell? ⟨b,4,none⟩ = some v4
theorem Bx5.same {w w' : World} {b : Nat} {v0 v1 v2 v3 v4 : Value} (h : Bx5 w b v0 v1 v2 v3 v4) (hb : w'.heap[b]? = w.heap[b]?) : Bx5 w' b v0 v1 v2 v3 v4 := by
 have e : ∀ o,w'.cell? ⟨b,o,none⟩ = w.cell? ⟨b,o,none⟩ := fun o => World.cell?_of_block (w := w) hb
 exact ⟨(e 0).trans h.1,(e 1).trans h.2.1,(e 2).trans h.2.2.1,(e 3).trans h.2.2.2.1,(e 4).trans h.2.2.2.2⟩
def Copied (w : World) (lo : Nat) (v : Value) (L : List VT) (j : Nat) (E : List (VT × Value × Value)) : Prop :=
 E.length = j ∧ E.map (·.1) = L.take j ∧ w.ownsRow lo 29 5 v j (E.flatMap vc) ∧ ∀ e ∈ E,HS w (fun k => lo ≤ k ∧ k < w.heap.size ∧ ¬ v.ownBlock = some k) e.1 e.2.1 e.2.2
theorem Copied.ls {w : World} {lo : Nat} {v : Value} {L : List VT} {E : List (VT × Value × Value)} (h : Copied w lo v L L.length E) : LS w (fun k => lo ≤ k ∧ k < w.heap.size) L v := by
 obtain ⟨h1,h2,h3,h4⟩ := h
 rw [List.take_length] at h2
 have := own_ls (S := fun k => lo ≤ k ∧ k < w.heap.size) (by rw [h1]; exact h3) (fun e he => (h4 e he).onto (fun _ _ => rfl) (fun k hk => ⟨hk.1,hk.2.1⟩)) (fun g hg => h3.lt g hg)
 rw [h2] at this; exact this
def CopiedM (w : World) (lo : Nat) (v : Value) (K : List ByteArray) (V : List VT) (j : Nat) (E : List (ByteArray × VT × Value × Value)) : Prop :=
 E.length = j ∧ E.map (·.1) = K.take j ∧ E.map (·.2.1) = V.take j ∧ w.ownsRow lo 60 6 v j (E.flatMap pc) ∧ ∀ e ∈ E,e.1.size ≤ maxLen ∧ HS w (fun k => lo ≤ k ∧ k < w.heap.size ∧ ¬ v.ownBlock = some k) e.2.1 e.2.2.1 e.2.2.2
def CSt (w wr : World) (v0 v1 v2 v3 v4 cl cm : Value) : Prop := Bx5 wr w.heap.size v0 v1 v2 v3 v4 ∧ Row wr (w.heap.size + 1) 29 5 ∧ Row wr (w.heap.size + 2) 29 5 ∧ Bx5 wr (w.heap.size + 2) v0 v1 v2 cl cm ∧ Below w.heap.size w wr ∧ w.heap.size + 3 ≤ wr.heap.size
theorem CSt.onto {w wr w' : World} {v0 v1 v2 v3 v4 cl cm : Value} (h : CSt w wr v0 v1 v2 v3 v4 cl cm) (hb : Below (w.heap.size + 3) wr w') : CSt w w' v0 v1 v2 v3 v4 cl cm := by
 obtain ⟨h1,h2,h3,h4,h5,h6⟩ := h
 have hs := hb.size
 exact ⟨h1.same (hb.block _ (by omega)),h2.onto (hb.block _ (by omega)),h3.onto (hb.block _ (by omega)),h4.same (hb.block _ (by omega)),h5.trans (hb.mono (by omega)),by omega⟩
theorem Copied.set {w : World} {lo : Nat} {v : Value} {L : List VT} {j : Nat} {E : List (VT × Value × Value)} (h : Copied w lo v L j E) (b o : Nat) (u : Value) (hb : b < lo) : Copied (w.setCell ⟨b,o,none⟩ u) lo v L j E := by
 obtain ⟨h1,h2,h3,h4⟩ := h
 refine ⟨h1,h2,h3.kept (set_grown w b o u) ?_,fun e he => (h4 e he).onto (fun k hk => Below.heap_setCell _ _ _ _ (by show k ≠ b; omega)) (fun k hk => by simpa using hk)⟩
 cases hv : v.ownBlock with
 | none => exact Or.inl rfl
 | some g => have := h3.lt g hv; exact Or.inr (fun e => by injection e with e; omega)
theorem CopiedM.set {w : World} {lo : Nat} {v : Value} {K : List ByteArray} {V : List VT} {j : Nat} {E : List (ByteArray × VT × Value × Value)} (h : CopiedM w lo v K V j E) (b o : Nat) (u : Value) (hb : b < lo) : CopiedM (w.setCell ⟨b,o,none⟩ u) lo v K V j E := by
 obtain ⟨h1,h2,h2',h3,h4⟩ := h
 refine ⟨h1,h2,h2',h3.kept (set_grown w b o u) ?_,fun e he => ⟨(h4 e he).1,(h4 e he).2.onto (fun k hk => Below.heap_setCell _ _ _ _ (by show k ≠ b; omega)) (fun k hk => by simpa using hk)⟩⟩
 cases hv : v.ownBlock with
 | none => exact Or.inl rfl
 | some g => have := h3.lt g hv; exact Or.inr (fun e => by injection e with e; omega)
def Strict (K : List ByteArray) : Prop := ∀ (i j : Nat) (a b : ByteArray),i < j → K[i]? = some a → K[j]? = some b → ltB a.data.toList b.data.toList = true
theorem keys_at {K : List ByteArray} (h : keysB K = true) : ∀ (i : Nat) (c : ByteArray),K[i]? = some c → strOkB c = true := by
 intro i c hc
 unfold keysB at h
 have := (of_decide_eq_true h i (lt_of_some hc)).1
 rwa [getD_some hc] at this
theorem Strict.ne {K : List ByteArray} (h : Strict K) {i j : Nat} {a b : ByteArray} (hij : i ≠ j) (ha : K[i]? = some a) (hb : K[j]? = some b) : ¬ a.data.toList = b.data.toList := by
 intro he
 rcases Nat.lt_or_gt_of_ne hij with h1 | h1
 ·have := h i j a b h1 ha hb; rw [he,ltB_irr] at this; cases this
 ·have := h j i b a h1 hb ha; rw [he,ltB_irr] at this; cases this
theorem Strict.find {K : List ByteArray} {V : List VT} (h : Strict K) {i : Nat} {c : ByteArray} {t : VT} (hc : K[i]? = some c) (ht : V[i]? = some t) : findK c K V = some t :=
 findK_some c K V i c t hc ht rfl (fun j c' hj hc' => h.ne (by omega) hc' hc)
theorem Strict.tail {a : ByteArray} {K : List ByteArray} (h : Strict (a :: K)) : Strict K := fun i j x y hij hx hy => h (i + 1) (j + 1) x y (by omega) (by simpa using hx) (by simpa using hy)
theorem Rising.tail {a : ByteArray × VT} {A : List (ByteArray × VT)} (h : Rising (a :: A)) : Rising A := fun i j x y hij hx hy => h (i + 1) (j + 1) x y (by omega) (by simpa using hx) (by simpa using hy)
def backs (A : List (ByteArray × VT × Value × Value)) (j : Nat) : List (ByteArray × VT × Value × Value) := (A.drop (A.length - j)).reverse
def hasB (A : List (ByteArray × VT × Value × Value)) (key : ByteArray) (j : Nat) : Bool := (backs A j).any fun a => decide (a.1.data.toList = key.data.toList)
def withE (key : ByteArray) (x : VT) (p q : Value) (acc : List (ByteArray × VT × Value × Value) × Bool) (a : ByteArray × VT × Value × Value) : List (ByteArray × VT × Value × Value) × Bool :=
 ((acc.1 ++ (if (!acc.2 && !(ltB a.1.data.toList key.data.toList)) = true then [(key,x,p,q)] else [])) ++ (if a.1.data.toList = key.data.toList then [] else [a]),acc.2 || !(ltB a.1.data.toList key.data.toList))
def withJ (key : ByteArray) (x : VT) (p q : Value) (A : List (ByteArray × VT × Value × Value)) (j : Nat) : List (ByteArray × VT × Value × Value) × Bool := (A.take j).foldl (withE key x p q) ([],false)
def withL (key : ByteArray) (x : VT) (p q : Value) (A : List (ByteArray × VT × Value × Value)) : List (ByteArray × VT × Value × Value) :=
 if (withJ key x p q A A.length).2 then (withJ key x p q A A.length).1 else (withJ key x p q A A.length).1 ++ [(key,x,p,q)]
theorem HV.hs {w : World} {T : VT} {x y : Value} (h : HV w T x y) : HS w (fun _ => True) T x y := by
 induction h with
 | mk a b f g p q hk hn hs hL hM hK cL cK cM _ _ ihL ihM => exact .mk a b f g p q hk hn hs hL hM hK (fun _ => trivial) (fun _ => trivial) cL cK cM ihL ihM
def WRow (w wr : World) (v : Value) (E : List (ByteArray × VT × Value × Value)) : Prop := wr.ownsRow (w.heap.size + 4) 60 6 v E.length (E.flatMap pc) ∧ ∀ e ∈ E,e.1.size ≤ maxLen ∧ HV w e.2.1 e.2.2.1 e.2.2.2
def WRowS (S : Nat → Prop) (w wr : World) (v : Value) (E : List (ByteArray × VT × Value × Value)) : Prop := wr.ownsRow (w.heap.size + 4) 60 6 v E.length (E.flatMap pc) ∧ ∀ e ∈ E,e.1.size ≤ maxLen ∧ HS w S e.2.1 e.2.2.1 e.2.2.2
def WSt (w wr : World) (kv nv : Int) (sv : ByteArray) (xv yv : Value) (kx nx' : Int) (sx : ByteArray) (xx yx : Value) (cm : Value) : Prop :=
 Bx5 wr w.heap.size (.int .i64 kv) (.int .i64 nv) (.string sv) xv yv ∧ Bx5 wr (w.heap.size + 1) (.int .i64 kx) (.int .i64 nx') (.string sx) xx yx ∧ Row wr (w.heap.size + 2) 29 5 ∧ Row wr (w.heap.size + 3) 29 5 ∧
 Bx5 wr (w.heap.size + 3) (.int .i64 6) (.int .i64 0) (.string ⟨#[]⟩) (.slice none 0 0) cm ∧ Below w.heap.size w wr ∧ w.heap.size + 4 ≤ wr.heap.size
theorem WSt.step {w wr w2 : World} {kv nv : Int} {sv : ByteArray} {xv yv : Value} {kx nx' : Int} {sx : ByteArray} {xx yx cm : Value} (h : WSt w wr kv nv sv xv yv kx nx' sx xx yx cm) (hb : Below (w.heap.size + 4) wr w2) (u : Value) :
  WSt w (w2.setCell ⟨w.heap.size + 3,4,none⟩ u) kv nv sv xv yv kx nx' sx xx yx u := by
 obtain ⟨h1,h2,h3,h4,⟨g0,g1,g2,g3,g4⟩,h5,h6⟩ := h
 have hs := hb.size
 have k0 : Bx5 w2 (w.heap.size + 3) (.int .i64 6) (.int .i64 0) (.string ⟨#[]⟩) (.slice none 0 0) cm := Bx5.same ⟨g0,g1,g2,g3,g4⟩ (hb.block _ (by omega))
 obtain ⟨f0,f1,f2,f3,f4⟩ := k0
 have hr := h4.onto (hb.block _ (show w.heap.size + 3 < w.heap.size + 4 by omega))
 refine ⟨(h1.same (hb.block _ (by omega))).same (Below.heap_setCell _ _ _ _ (by simp)),(h2.same (hb.block _ (by omega))).same (Below.heap_setCell _ _ _ _ (by simp)),(h3.onto (hb.block _ (by omega))).set _ _,hr.set _ _,⟨?_,?_,?_,?_,?_⟩,vset_bel (h5.trans (hb.mono (by omega))) (by simp),by simp; omega⟩
 ·rw [set_other _ _ _ _ _ _ (Or.inr (by omega))]; exact f0
 ·rw [set_other _ _ _ _ _ _ (Or.inr (by omega))]; exact f1
 ·rw [set_other _ _ _ _ _ _ (Or.inr (by omega))]; exact f2
 ·rw [set_other _ _ _ _ _ _ (Or.inr (by omega))]; exact f3
 ·exact set_same hr (by omega) _
theorem WRow.set {w wr : World} {v : Value} {E : List (ByteArray × VT × Value × Value)} (h : WRow w wr v E) (o : Nat) (u : Value) : WRow w (wr.setCell ⟨w.heap.size + 3,o,none⟩ u) v E := by
 refine ⟨h.1.kept (set_grown wr _ o u) ?_,h.2⟩
 cases hv : v.ownBlock with
 | none => exact Or.inl rfl
 | some g => have := h.1.lt g hv; exact Or.inr (fun e => by injection e with e; omega)
theorem WRow.more {w wr w2 : World} {v v' : Value} {E : List (ByteArray × VT × Value × Value)} {a : ByteArray × VT × Value × Value} (h : WRow w wr v E) (ha : a.1.size ≤ maxLen ∧ HV w a.2.1 a.2.2.1 a.2.2.2) (hown : w2.ownsRow (w.heap.size + 4) 60 6 v' (E.length + 1) (E.flatMap pc ++ pc a)) : WRow w w2 v' (E ++ [a]) := by
 refine ⟨by rw [List.flatMap_append]; simpa using hown,fun e he => ?_⟩
 rcases List.mem_append.1 he with h' | h'
 ·exact h.2 e h'
 ·obtain rfl := List.mem_singleton.1 h'; exact ha
theorem WRowS.set {S : Nat → Prop} {w wr : World} {v : Value} {E : List (ByteArray × VT × Value × Value)} (h : WRowS S w wr v E) (o : Nat) (u : Value) : WRowS S w (wr.setCell ⟨w.heap.size + 3,o,none⟩ u) v E := by
 refine ⟨h.1.kept (set_grown wr _ o u) ?_,h.2⟩
 cases hv : v.ownBlock with
 | none => exact Or.inl rfl
 | some g => have := h.1.lt g hv; exact Or.inr (fun e => by injection e with e; omega)
theorem WRowS.more {S : Nat → Prop} {w wr w2 : World} {v v' : Value} {E : List (ByteArray × VT × Value × Value)} {a : ByteArray × VT × Value × Value} (h : WRowS S w wr v E) (ha : a.1.size ≤ maxLen ∧ HS w S a.2.1 a.2.2.1 a.2.2.2) (hown : w2.ownsRow (w.heap.size + 4) 60 6 v' (E.length + 1) (E.flatMap pc ++ pc a)) : WRowS S w w2 v' (E ++ [a]) := by
 refine ⟨by rw [List.flatMap_append]; simpa using hown,fun e he => ?_⟩
 rcases List.mem_append.1 he with h' | h'
 ·exact h.2 e h'
 ·obtain rfl := List.mem_singleton.1 h'; exact ha
def WithPostS (S : Nat → Prop) (T : VT) (key : ByteArray) (U : VT) (x' y' : Value) (w : World) (e : Ending) (w' : World) : Prop := ∃ (A E : List (ByteArray × VT × Value × Value)) (o : Option Addr) (m c : Nat),A.map (·.1) = T.ks ∧ A.map (·.2.1) = T.vs ∧ Hid (E = withL key U x' y' A) ∧ e = .returned (.agg #[.int .i64 6,.int .i64 0,.string ⟨#[]⟩,.slice none 0 0,.slice o m c]) ∧ WRowS S w w' (.slice o m c) E ∧ Below w.heap.size w w'
theorem WRowS.old {S : Nat → Prop} {w wr : World} {v : Value} {E : List (ByteArray × VT × Value × Value)} (h : WRowS S w wr v E) : WRow w wr v E := ⟨h.1,fun e he => ⟨(h.2 e he).1,(h.2 e he).2.hv⟩⟩
def WithPost (T : VT) (key : ByteArray) (U : VT) (x' y' : Value) (w : World) (e : Ending) (w' : World) : Prop := ∃ (A E : List (ByteArray × VT × Value × Value)) (o : Option Addr) (m c : Nat),A.map (·.1) = T.ks ∧ A.map (·.2.1) = T.vs ∧ Hid (E = withL key U x' y' A) ∧ e = .returned (.agg #[.int .i64 6,.int .i64 0,.string ⟨#[]⟩,.slice none 0 0,.slice o m c]) ∧ WRow w w' (.slice o m c) E ∧ Below w.heap.size w w'
def prs (E : List (ByteArray × VT × Value × Value)) : List (ByteArray × VT) := E.map fun a => (a.1,a.2.1)
def insP (key : ByteArray) (x : VT) : Bool → List (ByteArray × VT) → List (ByteArray × VT)
 | d,[] => if d then [] else [(key,x)]
 | d,a :: r => ((if (!d && !(ltB a.1.data.toList key.data.toList)) = true then [(key,x)] else []) ++ (if a.1.data.toList = key.data.toList then [] else [a])) ++ insP key x (d || !(ltB a.1.data.toList key.data.toList)) r
def WInv (ks : List ByteArray) (x : VT) (j : Nat) (P : List (ByteArray × VT)) (h : Int) : Prop :=
 Strict (P.map (·.1)) ∧ (∀ a ∈ P,a.2 = x) ∧ (P.length ≤ j ∧ ∀ c,c ∈ P.map (·.1) ↔ c ∈ ks.take j) ∧ ((h = 0 ∧ P.Perm ((ks.take j).map fun c => (c,x))) ∨ (h = 5 ∧ ¬ (ks.take j).Nodup))
end Go.Proofs.YteimbjamnfkapaaGreatDoor
