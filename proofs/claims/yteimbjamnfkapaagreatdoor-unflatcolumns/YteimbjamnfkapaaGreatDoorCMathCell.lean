/- Plain mathematics: a cell for each value, a value for each cell. -/
import Derived.Test.YteimbjamnfkapaaGreatDoorCUnA
import Derived.Test.YteimbjamnfkapaaGreatDoorCShelf3
import Derived.Test.YteimbjamnfkapaaGreatDoorCVPlus
import Derived.Test.YteimbjamnfkapaaGreatDoorCMathDecAll
/- unflat: the tree that grows: a shape said, a node more, a way more, a part more. -/
namespace Go.Proofs.YteimbjamnfkapaaGreatDoor
open Go.RowKit Go.Maps
abbrev Ways := List ((Nat × PStep) × Nat)
theorem map_off {w : World} {B : Nat} {e : TypeId} {s n m : Nat} {v : Value} {xs : List Value} {es : Array MapEntry} {c : Nat} (h : w.ownsRow B e s v n xs) (k : w.heap[m]? = some (.map es c)) : v.ownBlock = none ∨ v.ownBlock ≠ some m := by
 rcases h.2 with ⟨rfl, -⟩ | ⟨g, cap, cur, rfl, -, hg, -⟩
 ·exact .inl rfl
 ·refine .inr fun hh => ?_
  have : g = m := by simpa [Value.ownBlock] using hh
  subst this
  rw [hg] at k
  cases k
theorem MpM.off {α : Type} {w : World} {k : TypeId} {lit : α → Lit} {m B : Nat} {l : List (α × Nat)} {e : TypeId} {s n : Nat} {v : Value} {xs : List Value} (h : MpM w k lit m l) (r : w.ownsRow B e s v n xs) : v.ownBlock = none ∨ v.ownBlock ≠ some m := by
 obtain ⟨es, c, h1, -⟩ := h
 exact map_off r h1
theorem MpM.ne {α : Type} {w : World} {k : TypeId} {lit : α → Lit} {m tb : Nat} {l : List (α × Nat)} {c : Array Value} {ty : TypeId} {fz : Nat × Nat} (h : MpM w k lit m l) (hb : w.heap[tb]? = some (.cells c ty fz)) : ¬ m = tb := by
 obtain ⟨es, c', h1, -⟩ := h
 intro e; subst e; rw [h1] at hb; cases hb
theorem TM.set {B : Nat} {w : World} {tb m g c : Nat} {E : List NE} {M : Ways} (h : TM B w tb m (.slice (some ⟨g, 0, none⟩) E.length c) E M) {a : Nat} {e : NE} (he : E[a]? = some e) (k : Int) :
  TM B (w.setCell ⟨g, a * 6, none⟩ (.int .i64 k)) tb m (.slice (some ⟨g, 0, none⟩) E.length c) (E.set a ⟨{e.d with sh := k}, e.u⟩) M ∧ Kp B w (w.setCell ⟨g, a * 6, none⟩ (.int .i64 k)) := by
 obtain ⟨h1, h2⟩ := h.ns.stored (a * 6) (.int .i64 k)
 have hne : ¬ tb = g := fun e => by
  rcases own_off h.ns h.box (by decide) with h3 | h3
  ·cases h3
  ·exact h3 (by rw [e]; rfl)
 have hmg : ¬ m = g := fun e => by
  rcases h.mp.off h.ns with h3 | h3
  ·cases h3
  ·exact h3 (by rw [e]; rfl)
 have hgB : B ≤ g := (h.ns.lt g rfl).1
 refine ⟨⟨h.lo, h.mlo, by simpa using h.wlo, ?_, ?_, ?_, ?_, h.mp.kept (h2.block m h.mp.lt (fun e => hmg (by injection e))), h.mo⟩, Kp.grown h2 h.wlo (fun k hk => by injection hk with hk; omega)⟩
 ·rw [h2.block tb h.lt (fun e => hne (by injection e))]; exact h.box
 ·rw [List.length_set]
  have e1 := nc_set E a e ⟨{e.d with sh := k}, e.u⟩ he 0 (.int .i64 k) (by decide) rfl
  rw [Nat.add_zero] at e1
  rw [← e1]; exact h1
 ·intro e' he'
  obtain ⟨j, hj⟩ := List.getElem?_of_mem he'
  rw [List.getElem?_set] at hj
  have hk : ∀ e1 ∈ E, (w.setCell ⟨g, a * 6, none⟩ (.int .i64 k)).ownsRow B 3 1 e1.u e1.d.ps.length (pI e1.d.ps) := fun e1 h1 => (h.ps e1 h1).kept h2 (own_ne (h.ps e1 h1) h.ns (by decide))
  split at hj
  ·split at hj
   ·injection hj with hj; subst hj; exact hk e (List.mem_of_getElem? he)
   ·cases hj
  ·exact hk e' (List.mem_of_getElem? hj)
 ·have key : ∀ (i : Nat) (x : NE), (E.set a ⟨{e.d with sh := k}, e.u⟩)[i]? = some x → ∃ y, E[i]? = some y ∧ y.u = x.u := fun i x hx => by
   rw [List.getElem?_set] at hx
   split at hx
   ·rename_i hia
    split at hx
    ·injection hx with hx; subst hx; subst hia; exact ⟨e, he, rfl⟩
    ·cases hx
   ·exact ⟨x, hx, rfl⟩
  intro i j x y hij hx hy
  obtain ⟨x', hx', ex⟩ := key i x hx
  obtain ⟨y', hy', ey⟩ := key j y hy
  rw [← ex, ← ey]; exact h.ap i j x' y' hij hx' hy'
theorem TM.more {B : Nat} {w w3 : World} {tb m : Nat} {v v' : Value} {E : List NE} {M : Ways} (h : TM B w tb m v E M) (n : Nd) (hn : n.ps = []) (h3 : w3.ownsRow B 152 6 v' (E.length + 1) (E.flatMap nc ++ nc ⟨n, .slice none 0 0⟩)) (hg : w.grownBy w3 v.ownBlock) :
  TM B (w3.setCell ⟨tb, 0, none⟩ v') tb m v' (E ++ [⟨n, .slice none 0 0⟩]) M ∧ Kp B w (w3.setCell ⟨tb, 0, none⟩ v') := by
 have hbx : w3.heap[tb]? = some (.cells #[v, .map (some m)] 100 (0, 0)) := by
  rw [hg.block tb h.lt (off_ne (own_off h.ns h.box (by decide)))]; exact h.box
 have hmp3 : MpM w3 201 wyL m M := h.mp.kept (hg.block m h.mp.lt (off_ne (h.mp.off h.ns)))
 have hs := set_grownW w3 tb 0 v'
 have hlo := h.lo
 refine ⟨⟨h.lo, h.mlo, by have := h.wlo; have := hg.size; simp; omega, by rw [lbox_set hbx]; rfl, ?_, ?_, ?_, hmp3.kept (hs.block m hmp3.lt (fun e => hmp3.ne hbx (by injection e))), h.mo⟩, (Kp.grown hg h.wlo (fun k hk => (h.ns.lt k hk).1)).trans (Kp.grown hs (by have := h.wlo; have := hg.size; omega) (fun k hk => by injection hk with hk; omega))⟩
 ·have := h3.kept hs (own_off h3 hbx (by decide))
  simpa using this
 ·intro e he
  rcases List.mem_append.1 he with he | he
  ·have h1 := (h.ps e he).kept hg (own_ne (h.ps e he) h.ns (by decide))
   exact h1.kept hs (own_off h1 hbx (by decide))
  ·rw [List.mem_singleton.1 he, hn]; exact World.ownsRow_nil _ _ _ _
 ·intro i j a b hij ha hb
  rcases Nat.lt_or_ge i E.length with hi | hi
  ·rw [List.getElem?_append_left hi] at ha
   rcases Nat.lt_or_ge j E.length with hj | hj
   ·rw [List.getElem?_append_left hj] at hb
    exact h.ap i j a b hij ha hb
   ·rw [List.getElem?_append_right hj] at hb
    have : b = ⟨n, .slice none 0 0⟩ := by
     cases hjj : j - E.length with
     | zero => rw [hjj] at hb; simp at hb; exact hb.symm
     | succ k => rw [hjj] at hb; simp at hb
    subst this
    cases hab : a.u.ownBlock with
    | none => exact .inl rfl
    | some k => exact .inr (by simp [Value.ownBlock])
  ·rw [List.getElem?_append_right hi] at ha
   have : a = ⟨n, .slice none 0 0⟩ := by
    cases hii : i - E.length with
    | zero => rw [hii] at ha; simp at ha; exact ha.symm
    | succ k => rw [hii] at ha; simp at ha
   subst this
   exact .inl rfl
theorem TM.put {B : Nat} {w w' : World} {tb m : Nat} {v : Value} {E : List NE} {M : Ways} (h : TM B w tb m v E M) (x : Nat × PStep) (b : Nat) (hx : wyO x) (hM : MpM w' 201 wyL m ((x, b) :: M)) (hg : w.grownBy w' (some m)) : TM B w' tb m v E ((x, b) :: M) ∧ Kp B w w' := by
 refine ⟨⟨h.lo, h.mlo, Nat.le_trans h.wlo hg.size, ?_, h.ns.kept hg (h.mp.off h.ns), fun e he => (h.ps e he).kept hg (h.mp.off (h.ps e he)), h.ap, hM, fun y hy => ?_⟩, Kp.grown hg h.wlo (fun k hk => by injection hk with hk; have := h.mlo; omega)⟩
 ·rw [hg.block tb h.lt (fun e => h.mp.ne h.box (by injection e with e; exact e.symm))]; exact h.box
 ·rcases List.mem_cons.1 hy with hy | hy
  ·subst hy; exact hx
  ·exact h.mo y hy
theorem TM.add {B : Nat} {w w3 : World} {tb m g c : Nat} {E : List NE} {M : Ways} (h : TM B w tb m (.slice (some ⟨g, 0, none⟩) E.length c) E M) {a : Nat} {e : NE} (he : E[a]? = some e) (n : Nat) (u' : Value)
  (h3 : w3.ownsRow B 3 1 u' (e.d.ps.length + 1) (pI e.d.ps ++ [.int .i64 (n : Int)])) (hg : w.grownBy w3 e.u.ownBlock) (hw : u'.ownBlock = e.u.ownBlock ∨ ∃ k, u'.ownBlock = some k ∧ w.heap.size ≤ k) :
  TM B (w3.setCell ⟨g, a * 6 + 5, none⟩ u') tb m (.slice (some ⟨g, 0, none⟩) E.length c) (E.set a ⟨{e.d with ps := e.d.ps ++ [n]}, u'⟩) M ∧ Kp B w (w3.setCell ⟨g, a * 6 + 5, none⟩ u') := by
 have hem := List.mem_of_getElem? he
 have hpe := h.ps e hem
 have hn3 := h.ns.kept hg (own_ne h.ns hpe (by decide))
 obtain ⟨h1, h2⟩ := hn3.stored (a * 6 + 5) u'
 have hbx : w3.heap[tb]? = some (.cells #[.slice (some ⟨g, 0, none⟩) E.length c, .map (some m)] 100 (0, 0)) := by
  rw [hg.block tb h.lt (off_ne (own_off hpe h.box (by decide)))]; exact h.box
 have hmp3 : MpM w3 201 wyL m M := h.mp.kept (hg.block m h.mp.lt (off_ne (h.mp.off hpe)))
 have hne : ¬ tb = g := fun e => by
  rcases own_off h.ns h.box (by decide) with h3 | h3
  ·cases h3
  ·exact h3 (by rw [e]; rfl)
 have hmg : ¬ m = g := fun e => by
  rcases h.mp.off h.ns with h3 | h3
  ·cases h3
  ·exact h3 (by rw [e]; rfl)
 have hgB : B ≤ g := (h.ns.lt g rfl).1
 have hsz := hg.size
 have hwlo := h.wlo
 have hlt3 : tb < w3.heap.size := by have := h.lt; omega
 refine ⟨⟨h.lo, h.mlo, by simp; omega, ?_, ?_, ?_, ?_, hmp3.kept (h2.block m hmp3.lt (fun e => hmg (by injection e))), h.mo⟩, (Kp.grown hg h.wlo (fun k hk => (hpe.lt k hk).1)).trans (Kp.grown h2 (by omega) (fun k hk => by injection hk with hk; omega))⟩
 ·rw [h2.block tb hlt3 (fun e => hne (by injection e))]; exact hbx
 ·rw [List.length_set, ← nc_set E a e ⟨{e.d with ps := e.d.ps ++ [n]}, u'⟩ he 5 u' (by decide) rfl]
  exact h1
 ·intro e' he'
  obtain ⟨j, hj⟩ := List.getElem?_of_mem he'
  rw [List.getElem?_set] at hj
  split at hj
  ·split at hj
   ·injection hj with hj; subst hj
    have := h3.kept h2 (own_ne h3 hn3 (by decide))
    simpa [pI] using this
   ·cases hj
  ·rename_i hja
   have h4 := (h.ps e' (List.mem_of_getElem? hj)).kept hg (h.ap j a e' e (fun e => hja e.symm) hj he)
   exact h4.kept h2 (own_ne h4 hn3 (by decide))
 ·have key : ∀ (i : Nat) (x : NE), (E.set a ⟨{e.d with ps := e.d.ps ++ [n]}, u'⟩)[i]? = some x → (¬ i = a ∧ E[i]? = some x) ∨ (i = a ∧ x.u = u') := fun i x hx => by
   rw [List.getElem?_set] at hx
   split at hx
   ·rename_i hia
    split at hx
    ·injection hx with hx; subst hx; exact .inr ⟨hia.symm, rfl⟩
    ·cases hx
   ·rename_i hia; exact .inl ⟨fun e => hia e.symm, hx⟩
  intro i j x y hij hx hy
  rcases key i x hx with ⟨h4, hx2⟩ | ⟨h4, ex⟩
  ·rcases key j y hy with ⟨h5, hy2⟩ | ⟨h5, ey⟩
   ·exact h.ap i j x y hij hx2 hy2
   ·rw [ey]
    rcases hw with hw | ⟨k, hk, hk2⟩
    ·rw [hw]; exact h.ap i a x e h4 hx2 he
    ·exact own_neq (h.ps x (List.mem_of_getElem? hx2)) k hk (.inr hk2)
  ·rcases key j y hy with ⟨h5, hy2⟩ | ⟨h5, ey⟩
   ·rw [ex]
    rcases hw with hw | ⟨k, hk, hk2⟩
    ·rw [hw]; exact h.ap a j e y (fun e => h5 e.symm) he hy2
    ·refine .inr ?_
     rw [hk]
     intro e
     have := (h.ps y (List.mem_of_getElem? hy2)).lt k e.symm
     omega
   ·exact absurd (h4.trans h5.symm) hij
end Go.Proofs.YteimbjamnfkapaaGreatDoor
namespace Go.Proofs.YteimbjamnfkapaaGreatDoor
open Go.RowKit
def cnmT (l : List UInt8) : VT := if intB l = true then leafT 2 (intV l) ⟨#[]⟩ else leafT 3 0 (mkS l)
def cwdT (l : List UInt8) : Option VT :=
 if l = [110, 117, 108, 108] then some zeroT else if l = [116, 114, 117, 101] then some (leafT 1 1 ⟨#[]⟩) else if l = [102, 97, 108, 115, 101] then some (leafT 1 0 ⟨#[]⟩) else if l = [91, 93] then some (leafT 5 0 ⟨#[]⟩) else if l = [123, 125] then some (leafT 6 0 ⟨#[]⟩) else none
def celT (l : List UInt8) : VT × Int :=
 if l = [] then (zeroT, 9) else match cwdT l with
 | some T => (T, 0)
 | none => if numB l = true then (cnmT l, 0) else if l.head? = some 64 then (if stampB (mkS l.tail) = true then (leafT 7 0 (mkS l.tail), 0) else (zeroT, 4))
  else if l.head? = some 39 then (strR (mkS l.tail), teI (mkS l.tail)) else (strR (mkS l), teI (mkS l))
def cplB (l : List UInt8) : Bool := !l.isEmpty && (cwdT l).isNone && !numB l && !decide (l.head? = some 64) && !decide (l.head? = some 39)
def cstL (l : List UInt8) : List UInt8 := if cplB l = true then l else 39 :: l
def celS (k n : Int) (s : ByteArray) : List UInt8 :=
 if k = 1 then (if n = 1 then [116, 114, 117, 101] else [102, 97, 108, 115, 101]) else if k = 2 then txt n else if k = 3 then s.data.toList else if k = 4 then cstL s.data.toList
 else if k = 7 then 64 :: s.data.toList else if k = 5 then [91, 93] else if k = 6 then [123, 125] else [110, 117, 108, 108]
def celW (T : VT) : List UInt8 := celS T.kd T.nm T.st
def celB (T : VT) : Bool := T.ls.isEmpty && T.vs.isEmpty && mayB 0 1 T
theorem cnum_at {b : UInt8} (l : List UInt8) (h : ¬ b.toNat = 45) (hd : isD b = false) : numB (b :: l) = false := by
 have e : pWok (b :: l) = false := by
  unfold pWok pW pU pNeg
  simp [h, hd]
 unfold numB pOk
 rw [e]; rfl
theorem cwd_is {l : List UInt8} {T : VT} (h : cwdT l = some T) : (l = [110, 117, 108, 108] ∧ T = zeroT) ∨ (l = [116, 114, 117, 101] ∧ T = leafT 1 1 ⟨#[]⟩) ∨ (l = [102, 97, 108, 115, 101] ∧ T = leafT 1 0 ⟨#[]⟩) ∨ (l = [91, 93] ∧ T = leafT 5 0 ⟨#[]⟩) ∨ (l = [123, 125] ∧ T = leafT 6 0 ⟨#[]⟩) := by
 unfold cwdT at h
 by_cases h1 : l = [110, 117, 108, 108]
 ·rw [if_pos h1] at h; exact .inl ⟨h1, (Option.some.inj h).symm⟩
 rw [if_neg h1] at h
 by_cases h2 : l = [116, 114, 117, 101]
 ·rw [if_pos h2] at h; exact .inr (.inl ⟨h2, (Option.some.inj h).symm⟩)
 rw [if_neg h2] at h
 by_cases h3 : l = [102, 97, 108, 115, 101]
 ·rw [if_pos h3] at h; exact .inr (.inr (.inl ⟨h3, (Option.some.inj h).symm⟩))
 rw [if_neg h3] at h
 by_cases h4 : l = [91, 93]
 ·rw [if_pos h4] at h; exact .inr (.inr (.inr (.inl ⟨h4, (Option.some.inj h).symm⟩)))
 rw [if_neg h4] at h
 by_cases h5 : l = [123, 125]
 ·rw [if_pos h5] at h; exact .inr (.inr (.inr (.inr ⟨h5, (Option.some.inj h).symm⟩)))
 rw [if_neg h5] at h; cases h
theorem cwd_num {l : List UInt8} (h : numB l = true) : cwdT l = none := by
 cases hc : cwdT l with
 | none => rfl
 | some T =>
  rcases cwd_is hc with ⟨rfl, -⟩ | ⟨rfl, -⟩ | ⟨rfl, -⟩ | ⟨rfl, -⟩ | ⟨rfl, -⟩ <;>
   (rw [cnum_at _ (by decide) (by decide)] at h; cases h)
theorem cwd_mark (b : UInt8) (l : List UInt8) (h : b = 39 ∨ b = 64) : cwdT (b :: l) = none := by
 unfold cwdT
 rcases h with rfl | rfl <;> simp
theorem cel_none {l : List UInt8} (h0 : ¬ l = []) (hw : cwdT l = none) : celT l = if numB l = true then (cnmT l, 0) else if l.head? = some 64 then (if stampB (mkS l.tail) = true then (leafT 7 0 (mkS l.tail), 0) else (zeroT, 4))
  else if l.head? = some 39 then (strR (mkS l.tail), teI (mkS l.tail)) else (strR (mkS l), teI (mkS l)) := by
 unfold celT
 rw [if_neg h0, hw]
theorem cel_word {l : List UInt8} {T : VT} (hw : cwdT l = some T) : celT l = (T, 0) := by
 have h0 : ¬ l = [] := by
  rcases cwd_is hw with ⟨rfl, -⟩ | ⟨rfl, -⟩ | ⟨rfl, -⟩ | ⟨rfl, -⟩ | ⟨rfl, -⟩ <;> simp
 unfold celT
 rw [if_neg h0, hw]
theorem cel_num {l : List UInt8} (h : numB l = true) : celT l = (cnmT l, 0) := by
 rw [cel_none (num_ne l h) (cwd_num h), if_pos h]
theorem cel_at (l : List UInt8) : celT (64 :: l) = if stampB (mkS l) = true then (leafT 7 0 (mkS l), 0) else (zeroT, 4) := by
 rw [cel_none (by simp) (cwd_mark _ _ (.inr rfl)), cnum_at _ (by decide) (by decide), if_neg (by decide), if_pos (by rfl)]
 rfl
theorem cel_mark (l : List UInt8) : celT (39 :: l) = (strR (mkS l), teI (mkS l)) := by
 rw [cel_none (by simp) (cwd_mark _ _ (.inl rfl)), cnum_at _ (by decide) (by decide), if_neg (by decide), if_neg (by simp), if_pos (by rfl)]
 rfl
theorem cpl_parts {l : List UInt8} (h : cplB l = true) : ¬ l = [] ∧ cwdT l = none ∧ numB l = false ∧ ¬ l.head? = some 64 ∧ ¬ l.head? = some 39 := by
 unfold cplB at h
 simp only [Bool.and_eq_true, Bool.not_eq_true', decide_eq_false_iff_not, Option.isNone_iff_eq_none] at h
 obtain ⟨⟨⟨⟨h1, h2⟩, h3⟩, h4⟩, h5⟩ := h
 exact ⟨by intro e; rw [e] at h1; simp at h1, h2, h3, h4, h5⟩
theorem cpl_of {l : List UInt8} (h0 : ¬ l = []) (h1 : cwdT l = none) (h2 : numB l = false) (h3 : ¬ l.head? = some 64) (h4 : ¬ l.head? = some 39) : cplB l = true := by
 unfold cplB
 rw [h1, h2, decide_eq_false h3, decide_eq_false h4]
 cases l with
 | nil => exact absurd rfl h0
 | cons a r => rfl
theorem cel_plain {l : List UInt8} (h : cplB l = true) : celT l = (strR (mkS l), teI (mkS l)) := by
 obtain ⟨h0, h1, h2, h3, h4⟩ := cpl_parts h
 rw [cel_none h0 h1, h2, if_neg (by decide), if_neg h3, if_neg h4]
theorem str_r {s : ByteArray} (h : teI s = 0) : strR s = leafT 4 0 s := by unfold strR; rw [if_pos h]
theorem cel_not {l : List UInt8} (h : cplB l = false) : ¬ ((celT l).2 = 0 ∧ (celT l).1 = leafT 4 0 (mkS l)) := by
 rintro ⟨h1, h2⟩
 by_cases h0 : l = []
 ·subst h0; unfold celT at h1; simp at h1
 cases hw : cwdT l with
 | some T =>
  rw [cel_word hw] at h2
  have h2 : T = leafT 4 0 (mkS l) := h2
  rcases cwd_is hw with ⟨-, e⟩ | ⟨-, e⟩ | ⟨-, e⟩ | ⟨-, e⟩ | ⟨-, e⟩ <;>
   (rw [e] at h2; have := congrArg VT.kd h2; simp [zeroT, leafT, VT.kd] at this)
 | none =>
  cases hn : numB l with
  | true =>
   rw [cel_num hn] at h2
   have h2 : cnmT l = leafT 4 0 (mkS l) := h2
   have := congrArg VT.kd h2
   unfold cnmT at this
   cases hi : intB l <;> simp [hi, leafT, VT.kd] at this
  | false =>
   by_cases h3 : l.head? = some 64
   ·obtain ⟨a, r, rfl⟩ : ∃ a r, l = a :: r := by
     cases l with
     | nil => exact absurd rfl h0
     | cons a r => exact ⟨a, r, rfl⟩
    have ha : a = 64 := by simpa using h3
    subst ha
    rw [cel_at] at h1 h2
    cases hs : stampB (mkS r) with
    | true =>
     rw [hs, if_pos rfl] at h2
     have := congrArg VT.kd h2
     simp [leafT, VT.kd] at this
    | false => rw [hs, if_neg (by decide)] at h1; simp at h1
   ·by_cases h4 : l.head? = some 39
    ·obtain ⟨a, r, rfl⟩ : ∃ a r, l = a :: r := by
      cases l with
      | nil => exact absurd rfl h0
      | cons a r => exact ⟨a, r, rfl⟩
     have ha : a = 39 := by simpa using h4
     subst ha
     rw [cel_mark] at h1 h2
     have h1 : teI (mkS r) = 0 := h1
     have h2 : strR (mkS r) = leafT 4 0 (mkS (39 :: r)) := h2
     rw [str_r h1] at h2
     have := congrArg (fun T => T.st.data.toList.length) h2
     simp [leafT, VT.st, mkS_list] at this
    ·rw [cpl_of h0 hw hn h3 h4] at h; cases h
theorem cst_back {l : List UInt8} (h : teI (mkS l) = 0) : celT (cstL l) = (leafT 4 0 (mkS l), 0) := by
 unfold cstL
 cases hc : cplB l with
 | true => rw [if_pos rfl, cel_plain hc, str_r h, h]
 | false => rw [if_neg (by decide), cel_mark, str_r h, h]
theorem leaf_of {T : VT} (h : celB T = true) (hk : T.ks.length = T.vs.length) : T = leafT T.kd T.nm T.st ∧ nodeB T = true := by
 unfold celB at h
 simp only [Bool.and_eq_true, List.isEmpty_iff] at h
 obtain ⟨⟨h1, h2⟩, h3⟩ := h
 cases T with
 | mk k n s L K V =>
  simp only [VT.ls, VT.vs, VT.ks, VT.kd, VT.nm, VT.st] at *
  subst h1 h2
  have hk : K = [] := List.length_eq_zero_iff.1 hk
  subst hk
  exact ⟨rfl, (good_node h3).2.2⟩
theorem cel_back {T : VT} (h : celB T = true) (hk : T.ks.length = T.vs.length) (hn : -9223372036854775808 ≤ T.nm ∧ T.nm < 9223372036854775808) : celT (celW T) = (T, 0) := by
 obtain ⟨h1, h2⟩ := leaf_of h hk
 generalize hK : T.kd = k at h1
 generalize hN : T.nm = n at h1 hn
 generalize hS : T.st = s at h1
 subst h1
 unfold nodeB nodeC at h2
 simp only [leafT, VT.kd, VT.nm, VT.st, VT.ls, VT.ks, VT.vs] at h2
 have hsl : ∀ x : ByteArray, x.toList.isEmpty = true → x = ⟨#[]⟩ := fun x hx => by
  have e : x.size = 0 := by
   rw [Lib.toList_data] at hx
   rw [← size_list, List.isEmpty_iff.1 hx]; rfl
  apply ByteArray.ext
  exact Array.eq_empty_of_size_eq_zero e
 show celT (celS k n s) = _
 unfold celS
 simp only [leafT]
 by_cases k1 : k = 1
 ·subst k1
  simp at h2
  obtain ⟨h3, h4⟩ := h2
  rw [if_pos rfl]
  rcases h3 with rfl | rfl
  ·rw [if_neg (by decide)]
   rw [hsl s (by simpa using h4)]
   exact cel_word (by rfl)
  ·rw [if_pos rfl]
   rw [hsl s (by simpa using h4)]
   exact cel_word (by rfl)
 rw [if_neg k1]
 by_cases k2 : k = 2
 ·subst k2
  simp at h2
  rw [if_pos rfl]
  obtain ⟨i1, i2, -⟩ := ints_int n hn
  rw [hsl s (by simpa using h2), cel_num (text_bare n (by omega)).1, cnmT, if_pos i1, i2]
  rfl
 rw [if_neg k2]
 by_cases k3 : k = 3
 ·subst k3
  simp at h2
  obtain ⟨h3, h4, h5⟩ := h2
  rw [if_pos rfl, cel_num h4, cnmT, h5, if_neg (by decide), h3, ← mkS_of s _ rfl]
  rfl
 rw [if_neg k3]
 by_cases k4 : k = 4
 ·subst k4
  simp at h2
  obtain ⟨h3, h4⟩ := h2
  rw [if_pos rfl, h3]
  have e := mkS_of s _ rfl
  have := cst_back (l := s.data.toList) (by rw [← e]; exact h4)
  rw [← e] at this
  exact this
 rw [if_neg k4]
 by_cases k7 : k = 7
 ·subst k7
  simp at h2
  obtain ⟨h3, h4⟩ := h2
  rw [if_pos rfl, cel_at, ← mkS_of s _ rfl, h4, if_pos rfl, h3]
  rfl
 rw [if_neg k7]
 by_cases k5 : k = 5
 ·subst k5
  simp at h2
  rw [if_pos rfl, hsl s (by simpa using h2.2), h2.1]
  exact cel_word (by rfl)
 rw [if_neg k5]
 by_cases k6 : k = 6
 ·subst k6
  simp at h2
  rw [if_pos rfl, hsl s (by simpa using h2.1.2), h2.1.1]
  exact cel_word (by rfl)
 rw [if_neg k6]
 by_cases k0 : k = 0
 ·subst k0
  simp at h2
  rw [hsl s (by simpa using h2.2), h2.1]
  exact cel_word (by rfl)
 ·simp [k0, k1, k2, k3, k4, k5, k6, k7] at h2
end Go.Proofs.YteimbjamnfkapaaGreatDoor
