import Derived.Test.YteimbjamnfkapaaGreatDoorLFlA
import Derived.Test.YteimbjamnfkapaaGreatDoorLPathTwo
import Derived.Test.YteimbjamnfkapaaGreatDoorLPathDoc
/- loss: what the fitter holds in memory; a step down, a step up, a note. -/
namespace Go.Proofs.YteimbjamnfkapaaGreatDoor
open Go.RowKit
abbrev LN := List PStep × Int
def ncE (e : LN) : List Value := [.string (mkS (textP e.1)),.int .i64 e.2]
structure Fk (W : World) (b : Nat) (f : Int) (nv ev : Value) (now : List PStep) (E : List LN) (w : World) : Prop where
 bel : Below W.heap.size W w
 lo : W.heap.size ≤ b
 box : w.heap[b]? = some (.cells #[.int .i64 f,nv,ev] 119 (0,0))
 ns : OwnS W w nv now
 es : w.ownsRow W.heap.size 66 2 ev E.length (E.flatMap ncE)
theorem Fk.lt {W : World} {b : Nat} {f : Int} {nv ev : Value} {now : List PStep} {E : List LN} {w : World} (h : Fk W b f nv ev now E w) : b < w.heap.size := (Array.getElem?_eq_some_iff.1 h.box).1
theorem Fk.onto {W : World} {b : Nat} {f : Int} {nv ev : Value} {now : List PStep} {E : List LN} {w w' : World} (h : Fk W b f nv ev now E w) (hb : Below w.heap.size w w') : Fk W b f nv ev now E w' :=
 ⟨vonto h.bel hb,h.lo,by rw [hb.block b h.lt]; exact h.box,ownsRow_below h.ns hb,ownsRow_below h.es hb⟩
theorem Fk.cells {W : World} {b : Nat} {f : Int} {nv ev : Value} {now : List PStep} {E : List LN} {w : World} (h : Fk W b f nv ev now E w) : w.cell? ⟨b,0,none⟩ = some (.int .i64 f) ∧ w.cell? ⟨b,1,none⟩ = some nv ∧ w.cell? ⟨b,2,none⟩ = some ev ∧ ∀ o,w.frozen? ⟨b,o,none⟩ = false := by
 refine ⟨by rw [cell_of_row w b 0 _ _ _ h.box]; rfl,by rw [cell_of_row w b 1 _ _ _ h.box]; rfl,by rw [cell_of_row w b 2 _ _ _ h.box]; rfl,fun o => by simp [World.frozen?,h.box]⟩
structure Mv (b : Nat) (nv ev : Value) (w : World) (nv' ev' : Value) (w' : World) : Prop where
 sz : w.heap.size ≤ w'.heap.size
 keep : ∀ k,k < w.heap.size → k ≠ b → nv.ownBlock ≠ some k → ev.ownBlock ≠ some k → w'.heap[k]? = w.heap[k]?
 nn : ∀ k,k < w.heap.size → nv'.ownBlock = some k → nv.ownBlock = some k
 ne : ∀ k,k < w.heap.size → ev'.ownBlock = some k → ev.ownBlock = some k
theorem Mv.refl (b : Nat) (nv ev : Value) (w : World) : Mv b nv ev w nv ev w := ⟨Nat.le_refl _,fun _ _ _ _ _ => rfl,fun _ _ h => h,fun _ _ h => h⟩
theorem Mv.of {b : Nat} {nv ev : Value} {w w' : World} (h : Below w.heap.size w w') : Mv b nv ev w nv ev w' := ⟨h.size,fun k hk _ _ _ => h.block k hk,fun _ _ h => h,fun _ _ h => h⟩
theorem Mv.trans {b : Nat} {nv ev nv1 ev1 nv2 ev2 : Value} {w w1 w2 : World} (h : Mv b nv ev w nv1 ev1 w1) (k : Mv b nv1 ev1 w1 nv2 ev2 w2) : Mv b nv ev w nv2 ev2 w2 :=
 ⟨Nat.le_trans h.sz k.sz,fun i hi h1 h2 h3 => (k.keep i (Nat.lt_of_lt_of_le hi h.sz) h1 (fun e => h2 (h.nn i hi e)) (fun e => h3 (h.ne i hi e))).trans (h.keep i hi h1 h2 h3),
  fun i hi e => h.nn i hi (k.nn i (Nat.lt_of_lt_of_le hi h.sz) e),fun i hi e => h.ne i hi (k.ne i (Nat.lt_of_lt_of_le hi h.sz) e)⟩
def Sx (b : Nat) (nv ev : Value) (w : World) (k : Nat) : Prop := k < w.heap.size ∧ k ≠ b ∧ nv.ownBlock ≠ some k ∧ ev.ownBlock ≠ some k
theorem Mv.at_ {b : Nat} {nv ev nv' ev' : Value} {w w' : World} (h : Mv b nv ev w nv' ev' w') {k : Nat} (s : Sx b nv ev w k) : w'.heap[k]? = w.heap[k]? := h.keep k s.1 s.2.1 s.2.2.1 s.2.2.2
theorem Mv.sx {b : Nat} {nv ev nv' ev' : Value} {w w' : World} (h : Mv b nv ev w nv' ev' w') {k : Nat} (s : Sx b nv ev w k) : Sx b nv' ev' w' k :=
 ⟨Nat.lt_of_lt_of_le s.1 h.sz,s.2.1,fun e => s.2.2.1 (h.nn k s.1 e),fun e => s.2.2.2 (h.ne k s.1 e)⟩
theorem Mv.hs {b : Nat} {nv ev nv' ev' : Value} {w w' : World} (h : Mv b nv ev w nv' ev' w') {T : VT} {x y : Value} (s : HS w (Sx b nv ev w) T x y) : HS w' (Sx b nv' ev' w') T x y := s.onto (fun _ hk => h.at_ hk) (fun _ hk => h.sx hk)
theorem Mv.cell {b : Nat} {nv ev nv' ev' : Value} {w w' : World} (h : Mv b nv ev w nv' ev' w') {k o : Nat} {u : Value} (s : Sx b nv ev w k) (c : w.cell? ⟨k,o,none⟩ = some u) : w'.cell? ⟨k,o,none⟩ = some u := by
 rw [World.cell?_of_block (h.at_ s)]; exact c
theorem Mv.row {b : Nat} {nv ev nv' ev' : Value} {w w' : World} (h : Mv b nv ev w nv' ev' w') {B n s : Nat} {e : TypeId} {v : Value} {xs : List Value} (r : w.ownsRow B e s v n xs) (hs : ∀ k,v.ownBlock = some k → Sx b nv ev w k) : w'.ownsRow B e s v n xs := by
 rcases r with ⟨h1,⟨rfl,h2⟩ | ⟨g,cap,cur,rfl,h3,h4,h5⟩⟩
 ·exact ⟨h1,.inl ⟨rfl,h2⟩⟩
 ·exact ⟨h1,.inr ⟨g,cap,cur,rfl,h3,(h.at_ (hs g rfl)).trans h4,h5⟩⟩
theorem Fk.old {W : World} {b : Nat} {f : Int} {nv ev : Value} {now : List PStep} {E : List LN} {w : World} (h : Fk W b f nv ev now E w) {k : Nat} (hk : k < W.heap.size) : Sx b nv ev w k :=
 ⟨Nat.lt_of_lt_of_le hk h.bel.size,by have := h.lo; omega,fun e => by have := (h.ns.lt k e).1; omega,fun e => by have := (h.es.lt k e).1; omega⟩
theorem Fk.fresh {W : World} {b : Nat} {f : Int} {nv ev : Value} {now : List PStep} {E : List LN} {w w' : World} (h : Fk W b f nv ev now E w) {k : Nat} (hk : w.heap.size ≤ k) (hk' : k < w'.heap.size) : Sx b nv ev w' k :=
 ⟨hk',by have := h.lt; omega,fun e => by have := (h.ns.lt k e).2; omega,fun e => by have := (h.es.lt k e).2; omega⟩
theorem vset_belF {W w : World} {b o : Nat} {v : Value} (h : Below W.heap.size W w) (hb : W.heap.size ≤ b) : Below W.heap.size W (w.setCell ⟨b,o,none⟩ v) :=
 h.grown (set_grownW w b o v) (by have := h.size; omega) (fun q hq => by injection hq with hq; omega)
theorem Fk.down {W : World} {b : Nat} {f : Int} {nv ev : Value} {now : List PStep} {E : List LN} {w w3 : World} {g cap : Nat} {s : PStep} (h : Fk W b f nv ev now E w)
  (h3 : w3.ownsRow W.heap.size 78 3 (.slice (some ⟨g,0,none⟩) (now.length + 1) cap) (now.length + 1) (now.flatMap sc ++ sc s)) (hg : w.grownBy w3 nv.ownBlock) (hw : nv.ownBlock = some g ∨ g = w.heap.size) :
  Fk W b f (.slice (some ⟨g,0,none⟩) (now.length + 1) cap) ev (now ++ [s]) E (w3.setCell ⟨b,1,none⟩ (.slice (some ⟨g,0,none⟩) (now.length + 1) cap)) ∧
  Mv b nv ev w (.slice (some ⟨g,0,none⟩) (now.length + 1) cap) ev (w3.setCell ⟨b,1,none⟩ (.slice (some ⟨g,0,none⟩) (now.length + 1) cap)) := by
 have hbne : nv.ownBlock = none ∨ nv.ownBlock ≠ some b := own_off h.ns h.box (by decide)
 have hbx : w3.heap[b]? = some (.cells #[.int .i64 f,nv,ev] 119 (0,0)) := by
  rw [hg.block b h.lt (off_ne hbne)]
  exact h.box
 have k0 := set_grownW w3 b 1 (.slice (some ⟨g,0,none⟩) (now.length + 1) cap)
 refine ⟨⟨vset_belF (h.bel.grown hg (by have := h.bel.size; omega) (fun q hq => (h.ns.lt q hq).1)) h.lo,h.lo,by rw [lbox_set hbx]; rfl,?_,?_⟩,⟨?_,fun k hk h1 h2 _ => ?_,fun k hk e => ?_,fun k _ e => e⟩⟩
 ·have := h3.kept k0 (own_off h3 hbx (by decide))
  simpa [OwnS] using this
 ·have h1 := h.es.kept hg (own_ne h.es h.ns (by decide))
  exact h1.kept k0 (own_off h1 hbx (by decide))
 ·rw [World.size_setCell]; exact hg.size
 ·exact (k0.block k (Nat.lt_of_lt_of_le hk hg.size) (fun e => h1 (by injection e))).trans (hg.block k hk (fun e => h2 e.symm))
 ·have e1 : g = k := by simpa [Value.ownBlock] using e
  rcases hw with hw | hw
  ·rw [hw,e1]
  ·omega
theorem Fk.up {W : World} {b g cap : Nat} {f : Int} {ev : Value} {now : List PStep} {s : PStep} {E : List LN} {w : World} (h : Fk W b f (.slice (some ⟨g,0,none⟩) (now.length + 1) cap) ev (now ++ [s]) E w) :
  Fk W b f (.slice (some ⟨g,0,none⟩) now.length cap) ev now E (w.setCell ⟨b,1,none⟩ (.slice (some ⟨g,0,none⟩) now.length cap)) ∧
  Mv b (.slice (some ⟨g,0,none⟩) (now.length + 1) cap) ev w (.slice (some ⟨g,0,none⟩) now.length cap) ev (w.setCell ⟨b,1,none⟩ (.slice (some ⟨g,0,none⟩) now.length cap)) := by
 have hns : OwnS W w (.slice (some ⟨g,0,none⟩) now.length cap) now := by
  rcases h.ns.2 with ⟨e,-⟩ | ⟨g',cap',cur,e,hb,hgg,h1,h2,h3,h4⟩
  ·cases e
  ·injection e with e1 e2 e3
   injection e1 with e1
   injection e1 with e1
   subst e1 e3
   simp only [List.length_append,List.length_singleton] at h1 h4
   refine ⟨sc_len now,.inr ⟨g,cap,cur,rfl,hb,hgg,by omega,h2,h3,?_⟩⟩
   have := congrArg (List.take (now.length * 3)) h4
   rw [List.take_take,Nat.min_eq_left (by omega),List.flatMap_append,← sc_len now,List.take_left] at this
   rw [← sc_len now]
   exact this
 have hbx := h.box
 have k0 := set_grownW w b 1 (.slice (some ⟨g,0,none⟩) now.length cap)
 refine ⟨⟨vset_belF h.bel h.lo,h.lo,by rw [lbox_set hbx]; rfl,hns.kept k0 (own_off hns hbx (by decide)),h.es.kept k0 (own_off h.es hbx (by decide))⟩,⟨by rw [World.size_setCell]; exact Nat.le_refl _,fun k hk h1 _ _ => k0.block k hk (fun e => h1 (by injection e)),fun k _ e => by simpa [Value.ownBlock] using e,fun k _ e => e⟩⟩
theorem Fk.more {W : World} {b : Nat} {f : Int} {nv ev ev' : Value} {now : List PStep} {E : List LN} {w w3 : World} (e : LN) (h : Fk W b f nv ev now E w)
  (h3 : w3.ownsRow W.heap.size 66 2 ev' (E.length + 1) (E.flatMap ncE ++ ncE e)) (hg : w.grownBy w3 ev.ownBlock) (hw : ∀ k,ev'.ownBlock = some k → ev.ownBlock = some k ∨ k = w.heap.size) :
  Fk W b f nv ev' now (E ++ [e]) (w3.setCell ⟨b,2,none⟩ ev') ∧ Mv b nv ev w nv ev' (w3.setCell ⟨b,2,none⟩ ev') := by
 have hbne : ev.ownBlock = none ∨ ev.ownBlock ≠ some b := own_off h.es h.box (by decide)
 have hbx : w3.heap[b]? = some (.cells #[.int .i64 f,nv,ev] 119 (0,0)) := by
  rw [hg.block b h.lt (off_ne hbne)]
  exact h.box
 have k0 := set_grownW w3 b 2 ev'
 refine ⟨⟨vset_belF (h.bel.grown hg (by have := h.bel.size; omega) (fun q hq => (h.es.lt q hq).1)) h.lo,h.lo,by rw [lbox_set hbx]; rfl,?_,?_⟩,⟨?_,fun k hk h1 _ h2 => ?_,fun k _ e => e,fun k hk e => ?_⟩⟩
 ·have h1 : OwnS W w3 nv now := h.ns.kept hg (own_ne h.ns h.es (by decide))
  exact h1.kept k0 (own_off h1 hbx (by decide))
 ·have := h3.kept k0 (own_off h3 hbx (by decide))
  simpa using this
 ·rw [World.size_setCell]; exact hg.size
 ·exact (k0.block k (Nat.lt_of_lt_of_le hk hg.size) (fun e => h1 (by injection e))).trans (hg.block k hk (fun e => h2 e.symm))
 ·rcases hw k e with hw | hw
  ·exact hw
  ·omega
theorem Fk.slices {W : World} {b : Nat} {f : Int} {nv ev : Value} {now : List PStep} {E : List LN} {w : World} (h : Fk W b f nv ev now E w) : (∃ o c,nv = .slice o now.length c) ∧ ∃ o c,ev = .slice o E.length c := ⟨own_slice h.ns,own_slice h.es⟩
def FkTo (W : World) (b : Nat) (f : Int) (nv ev : Value) (w : World) (now : List PStep) (E : List LN) (w' : World) : Prop := ∃ nv' ev',Fk W b f nv' ev' now E w' ∧ Mv b nv ev w nv' ev' w'
theorem Tryz.infoNote : (Tryz.prog.info? 66).map (fun i => (i.zero,i.size,i.bytes)) = some (some (.agg #[.string ⟨#[]⟩,.int .i64 0]),2,24) := by kernel_rfl
set_option maxRecDepth 100000 in
set_option maxHeartbeats 1000000 in
theorem fenter_any {W : World} {b : Nat} {f : Int} {nv ev : Value} {now : List PStep} {E : List LN} {w : World} (s : PStep) (h : Fk W b f nv ev now E w) (hn : now.length ≤ 100000) :
  Calls Tryz.prog 221 #[.pointer (some ⟨b,0,none⟩),pv s] w fun e w' => e = .returned (.tuple #[]) ∧ ∃ nv',Fk W b f nv' ev (now ++ [s]) E w' ∧ Mv b nv ev w nv' ev w' := by
 obtain ⟨i1,hi',hz0',hz1',hz2'⟩ := info_parts Tryz.infoPst
 obtain ⟨⟨on,cn,rfl⟩,-⟩ := h.slices
 obtain ⟨key,at_,pl⟩ := s
 have HW := hid h
 have hlt := h.lt
 clear h
 simp only [pv]
 go_enter Tryz.func221,Tryz.ntmps221
 go_wp2_with fail
 have hb0 : Below w.heap.size w (w.alloc (.cells #[.string key,.int .i64 at_,.bool pl] 78)) := valloc_bel (Below.refl _ _) _
 have hwk := HW.out.onto hb0
 obtain ⟨-,c1,-,-⟩ := hwk.cells
 have s0 : (w.alloc (.cells #[.string key,.int .i64 at_,.bool pl] 78)).cell? ⟨w.heap.size,0,none⟩ = some (.string key) := by simp
 have s1 : (w.alloc (.cells #[.string key,.int .i64 at_,.bool pl] 78)).cell? ⟨w.heap.size,1,none⟩ = some (.int .i64 at_) := by simp
 have s2 : (w.alloc (.cells #[.string key,.int .i64 at_,.bool pl] 78)).cell? ⟨w.heap.size,2,none⟩ = some (.bool pl) := by simp
 have hsz0 : (w.alloc (.cells #[.string key,.int .i64 at_,.bool pl] 78)).heap.size = w.heap.size + 1 := by simp
 have HM0 := hid (Mv.of (b := b) (nv := .slice on now.length cn) (ev := ev) hb0)
 generalize (w.alloc (.cells #[.string key,.int .i64 at_,.bool pl] 78)) = w0 at *
 have hS0 : w0.drew.cell? ⟨b,1,none⟩ = some (.slice on now.length cn) ∧ w0.drew.cell? ⟨w.heap.size,0,none⟩ = some (.string key) ∧ w0.drew.cell? ⟨w.heap.size,1,none⟩ = some (.int .i64 at_) ∧ w0.drew.cell? ⟨w.heap.size,2,none⟩ = some (.bool pl) := ⟨c1,s0,s1,s2⟩
 refine wp_region_ends2 (S := fun X => X.cell? ⟨b,1,none⟩ = some (.slice on now.length cn) ∧ X.cell? ⟨w.heap.size,0,none⟩ = some (.string key) ∧ X.cell? ⟨w.heap.size,1,none⟩ = some (.int .i64 at_) ∧ X.cell? ⟨w.heap.size,2,none⟩ = some (.bool pl)) (by simp) (by kernel_rfl) (by kernel_rfl) (by kernel_rfl) (by kernel_rfl) (by kernel_rfl) (by kernel_rfl) ?_
 simp only [List.dropLast,List.getLast_cons_cons,List.getLast_singleton,List.length_cons,List.length_nil]
 refine take_h (i := 0) (v := ?_) rfl (by kernel_rfl) (by kernel_rfl) (by kernel_rfl) (fun _ _ _ h => h) (by rfl) ?_ hS0 ?_
 rotate_left
 ·(intro X hX; obtain ⟨z1,z2,z3,z4⟩ := hX; go_simp; try with_reducible rfl)
 try simp only [Act.put,List.setIfInBounds_toArray,List.set_cons_zero,List.set_cons_succ]
 refine take_h (i := 1) (v := ?_) rfl (by kernel_rfl) (by kernel_rfl) (by kernel_rfl) (fun _ _ _ h => h) (by rfl) ?_ hS0 ?_
 rotate_left
 ·(intro X hX; obtain ⟨z1,z2,z3,z4⟩ := hX; go_simp; try with_reducible rfl)
 try simp only [Act.put,List.setIfInBounds_toArray,List.set_cons_zero,List.set_cons_succ]
 refine take_h (i := 2) (v := ?_) rfl (by kernel_rfl) (by kernel_rfl) (by kernel_rfl) (fun _ _ _ h => h) (by rfl) ?_ hS0 ?_
 rotate_left
 ·(intro X hX; obtain ⟨z1,z2,z3,z4⟩ := hX; go_simp; try with_reducible rfl)
 try simp only [Act.put,List.setIfInBounds_toArray,List.set_cons_zero,List.set_cons_succ]
 refine take_h (i := 3) (v := ?_) rfl (by kernel_rfl) (by kernel_rfl) (by kernel_rfl) (fun _ _ _ h => h) (by rfl) ?_ hS0 ?_
 rotate_left
 ·(intro X hX; obtain ⟨z1,z2,z3,z4⟩ := hX; go_simp; try with_reducible rfl)
 try simp only [Act.put,List.setIfInBounds_toArray,List.set_cons_zero,List.set_cons_succ]
 refine take_h (i := 4) (v := ?_) rfl (by kernel_rfl) (by kernel_rfl) (by kernel_rfl) (fun _ _ _ h => h) (by rfl) ?_ hS0 ?_
 rotate_left
 ·(intro X hX; obtain ⟨z1,z2,z3,z4⟩ := hX; go_simp; try with_reducible rfl)
 try simp only [Act.put,List.setIfInBounds_toArray,List.set_cons_zero,List.set_cons_succ]
 refine take_h (i := 5) (v := ?_) rfl (by kernel_rfl) (by kernel_rfl) (by kernel_rfl) (fun _ _ _ h => h) (by rfl) ?_ hS0 ?_
 rotate_left
 ·(intro X hX; obtain ⟨z1,z2,z3,z4⟩ := hX; go_simp; try with_reducible rfl)
 try simp only [Act.put,List.setIfInBounds_toArray,List.set_cons_zero,List.set_cons_succ]
 refine step_h (i := 6) rfl (by kernel_rfl) ?_
 intro KK hKK
 go_simp
 have hbx : Below w0.heap.size w0 (w0.drew.alloc (.cells #[.string key,.int .i64 at_,.bool pl] 78)) := valloc_bel (Below.refl w0.heap.size w0).drew _
 refine hKK.out _ _ ⟨keepCell hbx c1,keepCell hbx s0,keepCell hbx s1,keepCell hbx s2⟩ (fun hS2 => ?_)
 clear hKK KK
 refine step_h (i := 7) rfl (by kernel_rfl) ?_
 intro KK hKK
 have hwx := hwk.onto hbx
 refine step_append_lies _ (by rfl) _ _ _ (by rfl) W.heap.size 78 i1 (.agg #[.string ⟨#[]⟩,.int .i64 0,.bool false]) 3 32 Tryz.underlying41 hi' hz0' hz1' hz2' rfl (by decide) _ now.length _ (by rfl) hwx.ns ⟨w.heap.size + 1,0,none⟩ 1 1 (sc ⟨key,at_,pl⟩) (by rfl) rfl (by rw [← hsz0]; exact new_cells w0.drew _ 78) (sc_one _) (by decide) (by unfold maxLen; omega) (by omega) hwx.bel.size (w0.heap.size + 1) (by simp) ?_
 intro g9 cap9 w9 hown9 hgr9 hat9 hlt9
 have hd := hwx.down (s := ⟨key,at_,pl⟩) (by simpa using hown9) hgr9 (hat9.imp id (fun h => by rw [h]; simp))
 have hk9 : ∀ (o : Nat) (u : Value),w0.cell? ⟨w.heap.size,o,none⟩ = some u → w9.cell? ⟨w.heap.size,o,none⟩ = some u := fun o u h2 => by
  have h3 := keepCell hbx h2
  rw [World.cell?_of_block (hgr9.block w.heap.size (Nat.lt_of_lt_of_le (show w.heap.size < w0.heap.size by omega) hbx.size) (fun e => by have := ((HW.out).ns.lt _ e.symm).2; omega))]
  exact h3
 have hbb := (hgr9.block b hwx.lt (off_ne (own_off hwx.ns hwx.box (by decide)))).trans hwx.box
 have hb9 : w9.cell? ⟨b,1,none⟩ = some (.slice on now.length cn) := by rw [cell_of_row w9 b 1 _ _ _ hbb]; rfl
 refine hKK.out _ _ ⟨hb9,hk9 _ _ s0,hk9 _ _ s1,hk9 _ _ s2⟩ (fun hS3 => ?_)
 clear hKK KK hS2
 simp only [Act.put,List.setIfInBounds_toArray,List.set_cons_zero,List.set_cons_succ]
 refine take_h (i := 8) (v := ?_) rfl (by kernel_rfl) (by kernel_rfl) (by kernel_rfl) (fun _ _ _ h => h) (by rfl) ?_ hS3 ?_
 rotate_left
 ·(intro X hX; obtain ⟨z1,z2,z3,z4⟩ := hX; go_simp; try with_reducible rfl)
 try simp only [Act.put,List.setIfInBounds_toArray,List.set_cons_zero,List.set_cons_succ]
 refine take_h (i := 9) (v := ?_) rfl (by kernel_rfl) (by kernel_rfl) (by kernel_rfl) (fun _ _ _ h => h) (by rfl) ?_ hS3 ?_
 rotate_left
 ·(intro X hX; obtain ⟨z1,z2,z3,z4⟩ := hX; go_simp; try with_reducible rfl)
 try simp only [Act.put,List.setIfInBounds_toArray,List.set_cons_zero,List.set_cons_succ]
 refine wpAnyH_done (by kernel_rfl) ?_ _
 change Oper.wp _ _ _ _ _ _
 have hf9 : w9.frozen? ⟨b,1,none⟩ = false := by simp [World.frozen?,hbb]
 have HD := hid hd
 have HM1 := hid (HM0.out.trans (Mv.of (b := b) (nv := .slice on now.length cn) (ev := ev) hbx))
 clear hd hk9 hgr9 hown9 hS0 hS3 hwx hwk HW hbx hb0 s0 s1 s2 hat9 hlt9 hbb HM0
 go_simp
 go_wp2_with fail
 refine bodyPost_end (v := .tuple #[]) (by simp [results,Tryz.results221,go_sem]) rfl ?_
 exact ⟨rfl,_,HD.out.1,HM1.out.trans HD.out.2⟩
set_option maxRecDepth 100000 in
set_option maxHeartbeats 1000000 in
theorem fleave_any {W : World} {b : Nat} {f : Int} {nv ev : Value} {now : List PStep} {s : PStep} {E : List LN} {w : World} (h : Fk W b f nv ev (now ++ [s]) E w) (hn : now.length ≤ 100000) :
  Calls Tryz.prog 222 #[.pointer (some ⟨b,0,none⟩)] w fun e w' => e = .returned (.tuple #[]) ∧ ∃ nv',Fk W b f nv' ev now E w' ∧ Mv b nv ev w nv' ev w' := by
 obtain ⟨g2,cap2,rfl,hc2⟩ : ∃ g2 cap2,nv = .slice (some ⟨g2,0,none⟩) (now.length + 1) cap2 ∧ now.length + 1 ≤ cap2 := by
  rcases h.ns.2 with ⟨-,e⟩ | ⟨g,cap,cur,rfl,-,-,h1,-⟩
  ·simp at e
  ·simp at h1; exact ⟨g,cap,by simp,h1⟩
 obtain ⟨-,q0,-,qf⟩ := h.cells
 have HU := hid h.up
 clear h
 have qf := qf 1
 go_enter Tryz.func222,Tryz.ntmps222
 go_wp2_with fail
 have hS0 : w.drew.cell? ⟨b,1,none⟩ = some (.slice (some ⟨g2,0,none⟩) (now.length + 1) cap2) := q0
 refine wp_region_ends2 (S := fun X => X.cell? ⟨b,1,none⟩ = some (.slice (some ⟨g2,0,none⟩) (now.length + 1) cap2)) (by simp) (by kernel_rfl) (by kernel_rfl) (by kernel_rfl) (by kernel_rfl) (by kernel_rfl) (by kernel_rfl) ?_
 simp only [List.dropLast,List.getLast_cons_cons,List.getLast_singleton,List.length_cons,List.length_nil]
 have hwr : IntKind.i64.wrap (now.length : Int) = now.length := by rw [IntKind.wrap_i64]; omega
 refine take_h (i := 0) (v := ?_) rfl (by kernel_rfl) (by kernel_rfl) (by kernel_rfl) (fun _ _ _ h => h) (by rfl) ?_ hS0 ?_
 rotate_left
 ·(intro X hX; have z1 : X.cell? ⟨b,1,none⟩ = some (.slice (some ⟨g2,0,none⟩) (now.length + 1) cap2) := hX; go_simp; try with_reducible rfl)
 try simp only [Act.put,List.setIfInBounds_toArray,List.set_cons_zero,List.set_cons_succ]
 refine take_h (i := 1) (v := ?_) rfl (by kernel_rfl) (by kernel_rfl) (by kernel_rfl) (fun _ _ _ h => h) (by rfl) ?_ hS0 ?_
 rotate_left
 ·(intro X hX; have z1 : X.cell? ⟨b,1,none⟩ = some (.slice (some ⟨g2,0,none⟩) (now.length + 1) cap2) := hX; go_simp; try with_reducible rfl)
 try simp only [Act.put,List.setIfInBounds_toArray,List.set_cons_zero,List.set_cons_succ]
 refine take_h (i := 2) (v := ?_) rfl (by kernel_rfl) (by kernel_rfl) (by kernel_rfl) (fun _ _ _ h => h) (by rfl) ?_ hS0 ?_
 rotate_left
 ·(intro X hX; have z1 : X.cell? ⟨b,1,none⟩ = some (.slice (some ⟨g2,0,none⟩) (now.length + 1) cap2) := hX; go_simp; try with_reducible rfl)
 try simp only [Act.put,List.setIfInBounds_toArray,List.set_cons_zero,List.set_cons_succ]
 refine take_h (i := 3) (v := ?_) rfl (by kernel_rfl) (by kernel_rfl) (by kernel_rfl) (fun _ _ _ h => h) (by rfl) ?_ hS0 ?_
 rotate_left
 ·(intro X hX; have z1 : X.cell? ⟨b,1,none⟩ = some (.slice (some ⟨g2,0,none⟩) (now.length + 1) cap2) := hX; go_simp; try with_reducible rfl)
 try simp only [Act.put,List.setIfInBounds_toArray,List.set_cons_zero,List.set_cons_succ]
 refine take_h (i := 4) (v := ?_) rfl (by kernel_rfl) (by kernel_rfl) (by kernel_rfl) (fun _ _ _ h => h) (by rfl) ?_ hS0 ?_
 rotate_left
 ·(intro X hX; have z1 : X.cell? ⟨b,1,none⟩ = some (.slice (some ⟨g2,0,none⟩) (now.length + 1) cap2) := hX; go_simp; try with_reducible rfl)
 try simp only [Act.put,List.setIfInBounds_toArray,List.set_cons_zero,List.set_cons_succ]
 refine take_h (i := 5) (v := ?_) rfl (by kernel_rfl) (by kernel_rfl) (by kernel_rfl) (fun _ _ _ h => h) (by rfl) ?_ hS0 ?_
 rotate_left
 ·(intro X hX; have z1 : X.cell? ⟨b,1,none⟩ = some (.slice (some ⟨g2,0,none⟩) (now.length + 1) cap2) := hX; go_simp; try with_reducible rfl)
 try simp only [Act.put,List.setIfInBounds_toArray,List.set_cons_zero,List.set_cons_succ]
 refine take_h (i := 6) (v := ?_) rfl (by kernel_rfl) (by kernel_rfl) (by kernel_rfl) (fun _ _ _ h => h) (by rfl) ?_ hS0 ?_
 rotate_left
 ·(intro X hX; have z1 : X.cell? ⟨b,1,none⟩ = some (.slice (some ⟨g2,0,none⟩) (now.length + 1) cap2) := hX; go_simp; try with_reducible rfl)
 try simp only [Act.put,List.setIfInBounds_toArray,List.set_cons_zero,List.set_cons_succ]
 refine take_h (i := 7) (v := ?_) rfl (by kernel_rfl) (by kernel_rfl) (by kernel_rfl) (fun _ _ _ h => h) (by rfl) ?_ hS0 ?_
 rotate_left
 ·(intro X hX; have z1 : X.cell? ⟨b,1,none⟩ = some (.slice (some ⟨g2,0,none⟩) (now.length + 1) cap2) := hX; go_simp; try with_reducible rfl)
 try simp only [Act.put,List.setIfInBounds_toArray,List.set_cons_zero,List.set_cons_succ]
 refine take_h (i := 8) (v := ?_) rfl (by kernel_rfl) (by kernel_rfl) (by kernel_rfl) (fun _ _ _ h => h) (by rfl) ?_ hS0 ?_
 rotate_left
 ·(intro X hX; have z1 : X.cell? ⟨b,1,none⟩ = some (.slice (some ⟨g2,0,none⟩) (now.length + 1) cap2) := hX; go_simp; try with_reducible rfl)
 try simp only [Act.put,List.setIfInBounds_toArray,List.set_cons_zero,List.set_cons_succ]
 refine take_h (i := 9) (v := ?_) rfl (by kernel_rfl) (by kernel_rfl) (by kernel_rfl) (fun _ _ _ h => h) (by rfl) ?_ hS0 ?_
 rotate_left
 ·(intro X hX; have z1 : X.cell? ⟨b,1,none⟩ = some (.slice (some ⟨g2,0,none⟩) (now.length + 1) cap2) := hX; go_simp; try with_reducible rfl)
 try simp only [Act.put,List.setIfInBounds_toArray,List.set_cons_zero,List.set_cons_succ]
 refine take_h (i := 10) (v := .int .i64 (now.length : Int)) rfl (by kernel_rfl) (by kernel_rfl) (by kernel_rfl) (fun _ _ _ h => h) (by rfl) ?_ hS0 ?_
 ·(intro X hX; have z1 : X.cell? ⟨b,1,none⟩ = some (.slice (some ⟨g2,0,none⟩) (now.length + 1) cap2) := hX; go_simp; try (intro hh; exact absurd hh (by omega)))
 try simp only [Act.put,List.setIfInBounds_toArray,List.set_cons_zero,List.set_cons_succ]
 refine take_h (i := 11) (v := .slice (some ⟨g2,0,none⟩) now.length cap2) rfl (by kernel_rfl) (by kernel_rfl) (by kernel_rfl) (fun _ _ _ h => h) (by rfl) ?_ hS0 ?_
 ·(intro X hX; have z1 : X.cell? ⟨b,1,none⟩ = some (.slice (some ⟨g2,0,none⟩) (now.length + 1) cap2) := hX; go_simp; try (intro hh; exact absurd hh (by omega)))
 try simp only [Act.put,List.setIfInBounds_toArray,List.set_cons_zero,List.set_cons_succ]
 refine take_h (i := 12) (v := ?_) rfl (by kernel_rfl) (by kernel_rfl) (by kernel_rfl) (fun _ _ _ h => h) (by rfl) ?_ hS0 ?_
 rotate_left
 ·(intro X hX; have z1 : X.cell? ⟨b,1,none⟩ = some (.slice (some ⟨g2,0,none⟩) (now.length + 1) cap2) := hX; go_simp; try with_reducible rfl)
 try simp only [Act.put,List.setIfInBounds_toArray,List.set_cons_zero,List.set_cons_succ]
 refine take_h (i := 13) (v := ?_) rfl (by kernel_rfl) (by kernel_rfl) (by kernel_rfl) (fun _ _ _ h => h) (by rfl) ?_ hS0 ?_
 rotate_left
 ·(intro X hX; have z1 : X.cell? ⟨b,1,none⟩ = some (.slice (some ⟨g2,0,none⟩) (now.length + 1) cap2) := hX; go_simp; try with_reducible rfl)
 try simp only [Act.put,List.setIfInBounds_toArray,List.set_cons_zero,List.set_cons_succ]
 refine wpAnyH_done (by kernel_rfl) ?_ _
 change Oper.wp _ _ _ _ _ _
 go_simp
 go_wp2_with fail
 refine bodyPost_end (v := .tuple #[]) (by simp [results,Tryz.results222,go_sem]) rfl ?_
 obtain ⟨u1,u2⟩ := HU.out
 exact ⟨rfl,_,u1.onto (Below.refl _ _).drew,u2.trans (Mv.of (Below.refl _ _).drew)⟩
set_option maxRecDepth 100000 in
set_option maxHeartbeats 1000000 in
theorem fnote_any {W : World} {b : Nat} {f : Int} {nv ev : Value} {now : List PStep} {E : List LN} {w : World} (k : Int) (h : Fk W b f nv ev now E w) (hg : Glob5 W) (hn : now.length ≤ 100000) (hk : ∀ s ∈ now,Small s) (hE : E.length ≤ 1000000) :
  Calls Tryz.prog 163 #[.pointer (some ⟨b,0,none⟩),.int .i64 k] w fun e w' => e = .returned (.tuple #[]) ∧ ∃ ev',Fk W b f nv ev' now (E ++ [(now,k)]) w' ∧ Mv b nv ev w nv ev' w' := by
 obtain ⟨i1,hi',hz0',hz1',hz2'⟩ := info_parts Tryz.infoNote
 obtain ⟨⟨on,cn,rfl⟩,⟨oe,ce,rfl⟩⟩ := h.slices
 have CT := hid (fun X (hX : Below w.heap.size w X) => ptext_any now (.slice on now.length cn) X ((own_inp h.ns (fun s hs => by have := (hk s hs).1; unfold maxLen; omega)).onto hX) (hg.on (vonto h.bel hX)) (by omega) hk)
 have hts : (mkS (textP now)).size ≤ 300000000000 := by rw [mkS_size]; have := textP_len now hk; omega
 have HW := hid h
 obtain ⟨-,c1,c2,cf⟩ := h.cells
 have cf := cf 2
 clear h hg hk
 obtain ⟨t,ht⟩ : ∃ t,mkS (textP now) = t := ⟨_,rfl⟩
 rw [ht] at CT
 have HT := hid ht
 clear ht hts
 go_enter Tryz.func163,Tryz.ntmps163
 go_wp2_with fail
 have hS0 : w.drew.cell? ⟨b,1,none⟩ = some (.slice on now.length cn) ∧ w.drew.cell? ⟨b,2,none⟩ = some (.slice oe E.length ce) := ⟨c1,c2⟩
 refine wp_region_ends2 (S := fun X => X.cell? ⟨b,1,none⟩ = some (.slice on now.length cn) ∧ X.cell? ⟨b,2,none⟩ = some (.slice oe E.length ce)) (by simp) (by kernel_rfl) (by kernel_rfl) (by kernel_rfl) (by kernel_rfl) (by kernel_rfl) (by kernel_rfl) ?_
 simp only [List.dropLast,List.getLast_cons_cons,List.getLast_singleton,List.length_cons,List.length_nil]
 refine take_h (i := 0) (v := ?_) rfl (by kernel_rfl) (by kernel_rfl) (by kernel_rfl) (fun _ _ _ h => h) (by rfl) ?_ hS0 ?_
 rotate_left
 ·(intro X hX; obtain ⟨z1,z2⟩ := hX; go_simp; try with_reducible rfl)
 try simp only [Act.put,List.setIfInBounds_toArray,List.set_cons_zero,List.set_cons_succ]
 refine take_h (i := 1) (v := ?_) rfl (by kernel_rfl) (by kernel_rfl) (by kernel_rfl) (fun _ _ _ h => h) (by rfl) ?_ hS0 ?_
 rotate_left
 ·(intro X hX; obtain ⟨z1,z2⟩ := hX; go_simp; try with_reducible rfl)
 try simp only [Act.put,List.setIfInBounds_toArray,List.set_cons_zero,List.set_cons_succ]
 refine take_h (i := 2) (v := ?_) rfl (by kernel_rfl) (by kernel_rfl) (by kernel_rfl) (fun _ _ _ h => h) (by rfl) ?_ hS0 ?_
 rotate_left
 ·(intro X hX; obtain ⟨z1,z2⟩ := hX; go_simp; try with_reducible rfl)
 try simp only [Act.put,List.setIfInBounds_toArray,List.set_cons_zero,List.set_cons_succ]
 refine take_h (i := 3) (v := ?_) rfl (by kernel_rfl) (by kernel_rfl) (by kernel_rfl) (fun _ _ _ h => h) (by rfl) ?_ hS0 ?_
 rotate_left
 ·(intro X hX; obtain ⟨z1,z2⟩ := hX; go_simp; try with_reducible rfl)
 try simp only [Act.put,List.setIfInBounds_toArray,List.set_cons_zero,List.set_cons_succ]
 refine take_h (i := 4) (v := ?_) rfl (by kernel_rfl) (by kernel_rfl) (by kernel_rfl) (fun _ _ _ h => h) (by rfl) ?_ hS0 ?_
 rotate_left
 ·(intro X hX; obtain ⟨z1,z2⟩ := hX; go_simp; try with_reducible rfl)
 try simp only [Act.put,List.setIfInBounds_toArray,List.set_cons_zero,List.set_cons_succ]
 refine take_h (i := 5) (v := ?_) rfl (by kernel_rfl) (by kernel_rfl) (by kernel_rfl) (fun _ _ _ h => h) (by rfl) ?_ hS0 ?_
 rotate_left
 ·(intro X hX; obtain ⟨z1,z2⟩ := hX; go_simp; try with_reducible rfl)
 try simp only [Act.put,List.setIfInBounds_toArray,List.set_cons_zero,List.set_cons_succ]
 refine take_h (i := 6) (v := ?_) rfl (by kernel_rfl) (by kernel_rfl) (by kernel_rfl) (fun _ _ _ h => h) (by rfl) ?_ hS0 ?_
 rotate_left
 ·(intro X hX; obtain ⟨z1,z2⟩ := hX; go_simp; try with_reducible rfl)
 try simp only [Act.put,List.setIfInBounds_toArray,List.set_cons_zero,List.set_cons_succ]
 refine take_h (i := 7) (v := ?_) rfl (by kernel_rfl) (by kernel_rfl) (by kernel_rfl) (fun _ _ _ h => h) (by rfl) ?_ hS0 ?_
 rotate_left
 ·(intro X hX; obtain ⟨z1,z2⟩ := hX; go_simp; try with_reducible rfl)
 try simp only [Act.put,List.setIfInBounds_toArray,List.set_cons_zero,List.set_cons_succ]
 refine take_h (i := 8) (v := ?_) rfl (by kernel_rfl) (by kernel_rfl) (by kernel_rfl) (fun _ _ _ h => h) (by rfl) ?_ hS0 ?_
 rotate_left
 ·(intro X hX; obtain ⟨z1,z2⟩ := hX; go_simp; try with_reducible rfl)
 try simp only [Act.put,List.setIfInBounds_toArray,List.set_cons_zero,List.set_cons_succ]
 refine take_h (i := 10) (v := ?_) rfl (by kernel_rfl) (by kernel_rfl) (by kernel_rfl) (fun _ _ _ h => h) (by rfl) ?_ hS0 ?_
 rotate_left
 ·(intro X hX; obtain ⟨z1,z2⟩ := hX; go_simp; try with_reducible rfl)
 try simp only [Act.put,List.setIfInBounds_toArray,List.set_cons_zero,List.set_cons_succ]
 refine step_h (i := 9) rfl (by kernel_rfl) ?_
 intro KK hKK
 go_simp
 go_at_call 107
 refine (CT.out w.drew (Below.refl _ _).drew).mono ?_
 rintro e w6 ⟨rfl,hb6⟩
 have hb6' : Below w.heap.size w w6 := vonto (Below.refl w.heap.size w).drew hb6
 go_wp2_with fail
 refine hKK.out _ _ ⟨keepCell hb6' c1,keepCell hb6' c2⟩ (fun hS1 => ?_)
 clear hKK KK hS0
 try simp only [Act.put,List.setIfInBounds_toArray,List.set_cons_zero,List.set_cons_succ]
 refine take_h (i := 11) (v := ?_) rfl (by kernel_rfl) (by kernel_rfl) (by kernel_rfl) (fun _ _ _ h => h) (by rfl) ?_ hS1 ?_
 rotate_left
 ·(intro X hX; obtain ⟨z1,z2⟩ := hX; go_simp; try with_reducible rfl)
 try simp only [Act.put,List.setIfInBounds_toArray,List.set_cons_zero,List.set_cons_succ]
 refine step_h (i := 12) rfl (by kernel_rfl) ?_
 intro KK hKK
 go_simp
 have hbx : Below w.heap.size w (w6.alloc (.cells #[.string t,.int .i64 k] 66)) := vonto hb6' (valloc_bel (Below.refl _ _) _)
 refine hKK.out _ _ ⟨keepCell hbx c1,keepCell hbx c2⟩ (fun hS2 => ?_)
 clear hKK KK hS1
 try simp only [Act.put,List.setIfInBounds_toArray,List.set_cons_zero,List.set_cons_succ]
 refine step_h (i := 13) rfl (by kernel_rfl) ?_
 intro KK hKK
 have hwx := HW.out.onto hbx
 refine step_append_lies _ (by rfl) _ _ _ (by rfl) W.heap.size 66 i1 (.agg #[.string ⟨#[]⟩,.int .i64 0]) 2 24 Tryz.underlying62 hi' hz0' hz1' hz2' rfl (by decide) _ E.length _ (by rfl) hwx.es ⟨w6.heap.size,0,none⟩ 1 1 [.string t,.int .i64 k] (by rfl) rfl (new_cells w6 _ 66) (by intro u hu; simp at hu; rcases hu with rfl | rfl <;> rfl) (by decide) (by unfold maxLen; omega) (by omega) hwx.bel.size (w6.heap.size + 1) (by simp) ?_
 intro g9 cap9 w9 hown9 hgr9 hat9 hlt9
 have hd := hwx.more (now,k) (by unfold ncE; rw [HT.out]; exact hown9) hgr9 (fun q hq => by
  rcases hat9 with h | h
  ·left; rw [h]; exact hq
  ·right; rw [World.size_alloc,← h]; simpa [Value.ownBlock] using hq.symm)
 have hbb := (hgr9.block b hwx.lt (off_ne (own_off hwx.es hwx.box (by decide)))).trans hwx.box
 have b1 : w9.cell? ⟨b,1,none⟩ = some (.slice on now.length cn) := by rw [cell_of_row w9 b 1 _ _ _ hbb]; rfl
 have b2 : w9.cell? ⟨b,2,none⟩ = some (.slice oe E.length ce) := by rw [cell_of_row w9 b 2 _ _ _ hbb]; rfl
 have bf : w9.frozen? ⟨b,2,none⟩ = false := by simp [World.frozen?,hbb]
 refine hKK.out _ _ ⟨b1,b2⟩ (fun hS3 => ?_)
 clear hKK KK hS2
 try simp only [Act.put,List.setIfInBounds_toArray,List.set_cons_zero,List.set_cons_succ]
 refine take_h (i := 14) (v := ?_) rfl (by kernel_rfl) (by kernel_rfl) (by kernel_rfl) (fun _ _ _ h => h) (by rfl) ?_ hS3 ?_
 rotate_left
 ·(intro X hX; obtain ⟨z1,z2⟩ := hX; go_simp; try with_reducible rfl)
 try simp only [Act.put,List.setIfInBounds_toArray,List.set_cons_zero,List.set_cons_succ]
 refine take_h (i := 15) (v := ?_) rfl (by kernel_rfl) (by kernel_rfl) (by kernel_rfl) (fun _ _ _ h => h) (by rfl) ?_ hS3 ?_
 rotate_left
 ·(intro X hX; obtain ⟨z1,z2⟩ := hX; go_simp; try with_reducible rfl)
 try simp only [Act.put,List.setIfInBounds_toArray,List.set_cons_zero,List.set_cons_succ]
 refine wpAnyH_done (by kernel_rfl) ?_ _
 change Oper.wp _ _ _ _ _ _
 have HD := hid hd
 have HM1 := hid (Mv.of (b := b) (nv := .slice on now.length cn) (ev := .slice oe E.length ce) hbx)
 clear hd hgr9 hown9 hS3 hwx HW hbx hat9 hlt9 hbb CT hb6 hb6'
 go_simp
 go_wp2_with fail
 refine bodyPost_end (v := .tuple #[]) (by simp [results,Tryz.results163,go_sem]) rfl ?_
 exact ⟨rfl,_,HD.out.1,HM1.out.trans HD.out.2⟩
end Go.Proofs.YteimbjamnfkapaaGreatDoor
