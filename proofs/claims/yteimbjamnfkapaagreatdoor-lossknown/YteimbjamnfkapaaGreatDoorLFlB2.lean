import Derived.Test.YteimbjamnfkapaaGreatDoorLFlE
import Derived.Test.YteimbjamnfkapaaGreatDoorLFlA
/- slices.Insert of one path ahead of others, in the row that is there; and every way. -/
namespace Go.Proofs.YteimbjamnfkapaaGreatDoor
open Go.RowKit
theorem grown_trans {w w1 w2 : World} {o : Option Nat} (h : w.grownBy w1 o) (k : w1.grownBy w2 o) : w.grownBy w2 o :=
 ⟨k.os.trans h.os,k.tape.trans h.tape,k.output.trans h.output,Nat.le_trans h.size k.size,fun j hj hn => (k.block j (Nat.lt_of_lt_of_le hj h.size) hn).trans (h.block j hj hn)⟩
set_option maxRecDepth 100000 in
set_option maxHeartbeats 2000000 in
theorem cins_shift (B n i g cc ab : Nat) (U : List Value) (u : Value) (w : World) (hi : i < n) (hO : w.ownsRow B 41 1 (.slice (some ⟨g,0,none⟩) n cc) n U) (hcc : n + 1 ≤ cc) (hab : w.heap[ab]? = some (.cells #[u] 41 (0,0))) (hne : ¬ ab = g) (h1 : u.oneCell' = true) (hone : ∀ v ∈ U,v.oneCell' = true) (hm : n ≤ 1000000) :
  Calls Tryz.prog 106 #[.slice (some ⟨g,0,none⟩) n cc,.int .i64 (i : Int),.slice (some ⟨ab,0,none⟩) 1 1] w (Ins1 B n i U u (.slice (some ⟨g,0,none⟩) n cc) w) := by
 obtain ⟨i1,hi',hz0',hz1',hz2'⟩ := info_parts Tryz.infoPath1
 have hsz : (Tryz.prog.info? 41).map (·.size) = some 1 := by rw [hi']; simp [hz1']
 have hlen : U.length = n := by have := hO.1; omega
 have hcell : ∀ j v,U[j]? = some v → w.cell? ⟨g,j,none⟩ = some v := fun j v hv => by
  rw [hO.cellAt j (by have := lt_of_some hv; omega)]; exact hv
 obtain ⟨cur,hBg,hheap,hcm,hcs,htk⟩ : ∃ cur : Array Value,B ≤ g ∧ w.heap[g]? = some (.cells cur 41 (0,0)) ∧ cc ≤ maxLen ∧ cur.size = cc ∧ cur.toList.take n = U := by
  rcases hO.2 with ⟨e,-⟩ | ⟨g',cap',cur,e,a1,a2,a3,a4,a5,a6⟩
  ·cases e
  ·injection e with e1 e2 e3
   injection e1 with e1
   injection e1 with e1
   subst e1 e3
   exact ⟨cur,a1,a2,a4,by omega,by simpa using a6⟩
 have hcur : ∀ j,j < n → cur[j]? = U[j]? := fun j hj => by rw [← htk,List.getElem?_take,if_pos hj]; simp
 have hu : w.cell? ⟨ab,0,none⟩ = some u := by rw [cell_of_row w ab 0 _ _ _ hab]; rfl
 have hsome : ∀ j,j < cc → (w.cell? ⟨g,j,none⟩).isSome = true := fun j hj => by
  rw [cell_of_row w g j cur _ _ hheap,Array.getElem?_eq_getElem (by omega)]; rfl
 have hfz : ∀ j,w.frozen? ⟨g,j,none⟩ = false := fun j => by simp [World.frozen?,hheap]
 have hov : ∀ lb cb,(callFunc 155 #[.slice (some ⟨ab,0,none⟩) 1 1,.slice (some ⟨g,i + 1,none⟩) lb cb]).run Tryz.prog w = .ok (.value (.bool false)) w := fun lb cb => by
  rw [run_callFunc_extern Tryz.func155 (by kernel_rfl) (by kernel_rfl) (by kernel_rfl) (e := Extern.SlicesOverlaps.overlaps #[79,79] #[4]) (by kernel_rfl),
   Lib.run_overlaps_apart w 79 4 41 Tryz.underlying79 1 Tryz.sizeOf41 ⟨ab,0,none⟩ ⟨g,i + 1,none⟩ 1 1 lb cb hne 41 41 1 cc (by simp [World.shape?,hab]) (by simp [World.shape?,hheap,hcs]) (by omega) (by simp [World.frozen?,hab]) (by simp [World.frozen?,hab])]
  rfl
 have HOV := hid hov
 have hcp : ∀ ty c c',(Builtin.copy_ #[79,79] ty #[.slice (some ⟨g,i + 1,none⟩) (n - i) c,.slice (some ⟨g,i,none⟩) (n + 1 - i) c']).run Tryz.prog w.drew = .ok (goInt ((n - i : Nat) : Int)) (w.drew.setCells g (i + 1) (U.drop i)) := fun ty c c' => by
  have hmin : Nat.min (n + 1 - i) (n - i) = n - i := Nat.min_eq_right (by omega)
  have := run_copy1 (P := Tryz.prog) w.drew 79 79 ty 41 g (i + 1) (n - i) c ⟨g,i,none⟩ (n + 1 - i) c' (U.drop i) Tryz.underlying79 hsz (by rw [hmin,List.length_drop,hlen]) (fun j v hv => by
   rw [List.getElem?_drop] at hv
   rw [add_off]
   exact hcell _ _ hv) (fun j hj => by
    rw [List.length_drop,hlen] at hj
    exact hsome _ (by omega)) (fun j _ => hfz _) (fun v hv => hone v (List.mem_of_mem_drop hv))
  rw [hmin] at this
  exact this
 have HCP := hid hcp
 have hcp2 : ∀ ty c,(Builtin.copy_ #[79,79] ty #[.slice (some ⟨g,i,none⟩) (n + 1 - i) c,.slice (some ⟨ab,0,none⟩) 1 1]).run Tryz.prog (w.drew.setCells g (i + 1) (U.drop i)) = .ok (goInt 1) ((w.drew.setCells g (i + 1) (U.drop i)).setCells g i [u]) := fun ty c => by
  have hmin : Nat.min 1 (n + 1 - i) = 1 := Nat.min_eq_left (by omega)
  have := run_copy1 (P := Tryz.prog) (w.drew.setCells g (i + 1) (U.drop i)) 79 79 ty 41 g i (n + 1 - i) c ⟨ab,0,none⟩ 1 1 [u] Tryz.underlying79 hsz (by rw [hmin]; rfl) (fun j v hv => by
   cases j with
   | zero =>
    simp at hv; subst hv
    show (w.drew.setCells g (i + 1) (U.drop i)).cell? ⟨ab,0,none⟩ = some u
    rw [World.cell?_setCells_out _ _ _ _ _ (fun e => absurd (show ab = g from e) hne)]
    exact hu
   | succ j => simp at hv) (fun j hj => by
    exact World.isSome_setCells _ _ _ _ _ (hsome _ (by simp at hj; omega))) (fun j _ => by rw [World.frozen?_setCells]; exact hfz _) (by intro v hv; simp at hv; subst hv; exact h1)
  rw [hmin] at this
  exact this
 have HCP2 := hid hcp2
 obtain ⟨W2,hW2⟩ : ∃ W2,W2 = w.drew.setCells g (i + 1) (U.drop i) := ⟨_,rfl⟩
 have H20 := hid hW2
 rw [← hW2] at HCP HCP2
 have e1 : ((n : Int) + 1 - (i : Int)) = ((n + 1 - i : Nat) : Int) := by omega
 have ne1 : ((i : Int) == (n : Int)) = false := by simp; omega
 have hcc2 : cc ≤ 9223372036854775807 := by unfold maxLen at hcm; omega
 have H6 := hid hlen; have H8 := hid hheap; have H3 := hid hBg; have H4 := hid hcs; have H5 := hid hcur; have H7 := hid hcm
 clear hcp hcp2 hW2 hone hu h1 hheap hsome hfz hi' hz0' hz1' hz2' hO hcell hBg hlen hcs hcur htk hov hab hcm
 go_enter Tryz.func106,Tryz.ntmps106
 go_wp2_with (simp only [HOV.out])
 refine wp_region_ends2 (S := fun _ => True) (by simp) (by kernel_rfl) (by kernel_rfl) (by kernel_rfl) (by kernel_rfl) (by kernel_rfl) (by kernel_rfl) ?_
 simp only [List.dropLast,List.getLast_cons_cons,List.getLast_singleton,List.length_cons,List.length_nil]
 refine take_h (i := 0) (v := .slice (some ⟨g,0,none⟩) (n + 1) cc) rfl (by kernel_rfl) (by kernel_rfl) (by kernel_rfl) (fun _ _ _ h => h) (by rfl) ?_ trivial ?_
 ·(intro X hX; go_simp)
 simp only [Act.put,List.setIfInBounds_toArray,List.set_cons_zero,List.set_cons_succ]
 refine take_h (i := 1) (v := .int .i64 (i : Int)) rfl (by kernel_rfl) (by kernel_rfl) (by kernel_rfl) (fun _ _ _ h => h) (by rfl) ?_ trivial ?_
 ·(intro X hX; go_simp)
 simp only [Act.put,List.setIfInBounds_toArray,List.set_cons_zero,List.set_cons_succ]
 refine take_h (i := 2) (v := .int .i64 1) rfl (by kernel_rfl) (by kernel_rfl) (by kernel_rfl) (fun _ _ _ h => h) (by rfl) ?_ trivial ?_
 ·(intro X hX; go_simp)
 simp only [Act.put,List.setIfInBounds_toArray,List.set_cons_zero,List.set_cons_succ]
 refine take_h (i := 3) (v := .int .i64 ((i : Int) + 1)) rfl (by kernel_rfl) (by kernel_rfl) (by kernel_rfl) (fun _ _ _ h => h) (by rfl) ?_ trivial ?_
 ·(intro X hX; go_simp; rw [IntKind.wrap_i64]; omega)
 simp only [Act.put,List.setIfInBounds_toArray,List.set_cons_zero,List.set_cons_succ]
 refine take_h (i := 4) (v := .slice (some ⟨g,i + 1,none⟩) (n - i) (cc - (i + 1))) rfl (by kernel_rfl) (by kernel_rfl) (by kernel_rfl) (fun _ _ _ h => h) (by rfl) ?_ trivial ?_
 ·(intro X hX; go_simp; rw [if_pos ⟨by omega,by omega⟩,if_neg (by omega)])
 simp only [Act.put,List.setIfInBounds_toArray,List.set_cons_zero,List.set_cons_succ]
 refine take_h (i := 5) (v := .slice (some ⟨g,0,none⟩) (n + 1) cc) rfl (by kernel_rfl) (by kernel_rfl) (by kernel_rfl) (fun _ _ _ h => h) (by rfl) ?_ trivial ?_
 ·(intro X hX; go_simp)
 simp only [Act.put,List.setIfInBounds_toArray,List.set_cons_zero,List.set_cons_succ]
 refine take_h (i := 6) (v := .int .i64 (i : Int)) rfl (by kernel_rfl) (by kernel_rfl) (by kernel_rfl) (fun _ _ _ h => h) (by rfl) ?_ trivial ?_
 ·(intro X hX; go_simp)
 simp only [Act.put,List.setIfInBounds_toArray,List.set_cons_zero,List.set_cons_succ]
 refine take_h (i := 7) (v := .slice (some ⟨g,i,none⟩) (n + 1 - i) (cc - i)) rfl (by kernel_rfl) (by kernel_rfl) (by kernel_rfl) (fun _ _ _ h => h) (by rfl) ?_ trivial ?_
 ·(intro X hX; go_simp; rw [if_pos (by omega),if_neg (by omega)])
 simp only [Act.put,List.setIfInBounds_toArray,List.set_cons_zero,List.set_cons_succ]
 refine wpAnyH_done (by kernel_rfl) ?_ _
 change Oper.wp _ _ _ _ _ _
 refine wp_copy1 _ (.tmp 73) (.tmp 76) 79 79 rfl _ _ (by rfl) (by rfl) (HCP.out _ _ _) ?_
 go_wp2_with fail
 rw [HCP2.out]
 go_wp2_with fail
 go_ret
 have hp : (W2.setCells g i [u]).heap[g]? = some (.cells (putA (putA cur (i + 1) (U.drop i)) i [u]) 41 (0,0)) := by
  rw [H20.out]
  exact heap_setCells _ _ _ _ (heap_setCells _ _ _ _ H8.out)
 have hlen := H6.out
 have hcs := H4.out
 refine ⟨_,rfl,own_put hp H3.out hlen (by omega) hcc H7.out (by rw [putA_size,putA_size]; exact hcs) (fun j hj => ?_),?_⟩
 ·rw [cins_at U u i j (by omega),putA_at _ _ _ _ (by rw [putA_size,hcs,List.length_singleton]; omega),putA_at _ _ _ _ (by rw [hcs,List.length_drop]; omega),List.length_drop,List.length_singleton]
  by_cases h1 : j < i
  ·rw [if_neg (by omega),if_neg (by omega),if_pos h1]; exact H5.out j (by omega)
  ·rw [if_neg h1]
   by_cases h2 : j = i
   ·subst h2; rw [if_pos (by omega),if_pos rfl,Nat.sub_self]; rfl
   ·rw [if_neg (by omega),if_pos (by omega),if_neg h2,List.getElem?_drop,show i + (j - (i + 1)) = j - 1 by omega]
 ·have g1 := grown_setCells w.drew g (U.drop i) (i + 1)
  have g2 := grown_setCells W2 g [u] i
  rw [← H20.out] at g1
  have g0 : w.grownBy w.drew (some g) := ⟨rfl,rfl,rfl,Nat.le_refl _,fun _ _ _ => rfl⟩
  exact grown_trans g0 (grown_trans g1 g2)
theorem cins_any (B n i ab : Nat) (U : List Value) (u cv : Value) (w : World) (hi : i ≤ n) (hO : w.ownsRow B 41 1 cv n U) (hB : B ≤ w.heap.size) (hab : w.heap[ab]? = some (.cells #[u] 41 (0,0))) (hne : ∀ g,cv.ownBlock = some g → ¬ ab = g) (h1 : u.oneCell' = true) (hone : ∀ v ∈ U,v.oneCell' = true) (hm : n ≤ 1000000) :
  Calls Tryz.prog 106 #[cv,.int .i64 (i : Int),.slice (some ⟨ab,0,none⟩) 1 1] w (Ins1 B n i U u cv w) := by
 have hu : w.cell? ⟨ab,0,none⟩ = some u := by rw [cell_of_row w ab 0 _ _ _ hab]; rfl
 by_cases he : i = n
 ·subst he
  exact cins_end B i U u cv ⟨ab,0,none⟩ w hO hB hu h1 hm
 ·have hf := hO.2
  rcases hf with ⟨-,e⟩ | ⟨g,cap,cur,rfl,-,-,h3,-,-⟩
  ·omega
  ·by_cases hr : n + 1 ≤ cap
   ·exact cins_shift B n i g cap ab U u w (by omega) hO hr hab (hne g rfl) h1 hone hm
   ·obtain rfl : cap = n := by omega
    exact cins_grow B cap i g U u ⟨ab,0,none⟩ w (by omega) hO hB hu h1 hone hm
end Go.Proofs.YteimbjamnfkapaaGreatDoor
/- flat: a node visited: a leaf; a list; a map; and Leaves. -/
namespace Go.Proofs.YteimbjamnfkapaaGreatDoor
open Go.RowKit
theorem Tryz.infoLeaf : (Tryz.prog.info? 43).map (fun i => (i.zero,i.size,i.bytes)) = some (some (.agg #[.slice none 0 0,.int .i64 0,.int .i64 0,.string ⟨#[]⟩,.slice none 0 0,.slice none 0 0]),6,104) := by kernel_rfl
set_option maxRecDepth 100000 in
set_option maxHeartbeats 4000000 in
theorem lvisit_leaf5 (W : World) (T : VT) (x y : Value) (b : Nat) (nv pv0 : Value) (now : List PStep) (E : List LE) (w : World) (hP : plainT T = true) (hT : HV W T x y) (hW : Lk W b nv pv0 now E w) (hn : now.length + szT T ≤ 2000000) (hE : E.length + szT T ≤ 2000000) (hsz0 : szT T ≤ 1000000) (hk5 : T.kd = 5) (hl0 : T.ls.length = 0) :
  Calls Tryz.prog 56 #[.pointer (some ⟨b,0,none⟩),vv T x y] w fun e w' => e = .returned (.tuple #[]) ∧ ∃ nv2 pv2 E2,Lk W b nv2 pv2 now E2 w' ∧ E2.map LE.pt = E.map LE.pt ++ lfT T now := by
 have HN5 := hid (show ¬ (T.kd = 5 ∧ 0 < T.ls.length) by omega)
 have HN6 := hid (show ¬ (T.kd = 6 ∧ 0 < T.vs.length) by omega)
 have t5 : (T.kd == 5) = true := by simpa using hk5
 have t6 : (T.kd == 6) = false := by simp; omega
 have hl1 : ¬ ((0 : Int) < (T.ls.length : Int)) := by omega
 clear hk5 hl0
 have HALL := hid (show lfT T now = [(now,T)] by rw [lfT_at,if_neg HN5.out,if_neg HN6.out])
 have HBR := hid (leaf_bare hP HN5.out HN6.out)
 have HTW := hid (hT.onto hW.bel)
 obtain ⟨al,bl,f,g,p,q,oL,oM,cL,cM,rfl,rfl,-,-,hL3,hM3,hK,-,hlL,hlM,kL,kK,kM,rL,rM,-,-⟩ := hT.parts
 obtain ⟨i1,hi',hz0',hz1',hz2'⟩ := info_parts Tryz.infoLeaf
 obtain ⟨⟨on,cn,rfl⟩,⟨op,cp,rfl⟩⟩ := hW.slices
 have HW := hid (fun X (hX : Below w.heap.size w X) => hW.onto hX)
 have hltb := hW.lt
 have HCP := hid (fun (X : World) (hX : HV X T (.slice oL T.ls.length cL) (.slice oM T.vs.length cM)) => vcopy_any (szT T) T (Nat.le_refl _) hsz0 _ _ X hX)
 have HSZ := hid hsz0
 clear hT hW kL kK kM rL rM hK hL3 hM3 HN5 HN6 hP hsz0
 simp only [vv] at HCP ⊢
 go_enter Tryz.func56,Tryz.ntmps56
 go_wp2_with fail
 have hb0 : Below w.heap.size w (w.alloc (.cells #[.int .i64 T.kd,.int .i64 T.nm,.string T.st,.slice oL T.ls.length cL,.slice oM T.vs.length cM] 29)) := valloc_bel (Below.refl _ _) _
 have hc0 : ∀ (o : Nat) (u : Value),[Value.int .i64 T.kd,.int .i64 T.nm,.string T.st,.slice oL T.ls.length cL,.slice oM T.vs.length cM][o]? = some u → (w.alloc (.cells #[.int .i64 T.kd,.int .i64 T.nm,.string T.st,.slice oL T.ls.length cL,.slice oM T.vs.length cM] 29)).cell? ⟨w.heap.size,o,none⟩ = some u := fun o u h => by
  have := new_cells w [Value.int .i64 T.kd,.int .i64 T.nm,.string T.st,.slice oL T.ls.length cL,.slice oM T.vs.length cM] 29 o u h
  rwa [add_at] at this
 clear hl1 t5 t6
 have hwk := HW.out _ hb0
 obtain ⟨W0,hw0⟩ : ∃ W0,W0 = (w.alloc (.cells #[.int .i64 T.kd,.int .i64 T.nm,.string T.st,.slice oL T.ls.length cL,.slice oM T.vs.length cM] 29)) := ⟨_,rfl⟩
 rw [← hw0] at hb0 hc0 hwk ⊢
 have hsz0 : W0.heap.size = w.heap.size + 1 := by rw [hw0]; simp
 have hpl : ∀ k,(Value.slice op E.length cp).ownBlock = some k → k < w.heap.size := fun k hk => ((HW.out w (Below.refl _ _)).ps.lt k hk).2
 obtain ⟨q0,q1,-⟩ := hwk.cells
 have v0 := hc0 0 _ rfl
 have v1 := hc0 1 _ rfl
 have v2 := hc0 2 _ rfl
 have v3 := hc0 3 _ rfl
 have v4 := hc0 4 _ rfl
 have HWK := hid hwk
 clear hw0 hc0
 refine wp_region_ends2 (S := fun X => X.cell? ⟨b,0,none⟩ = some (.slice on now.length cn) ∧ X.cell? ⟨b,1,none⟩ = some (.slice op E.length cp) ∧ X.cell? ⟨w.heap.size,0,none⟩ = some (.int .i64 T.kd) ∧ X.cell? ⟨w.heap.size,1,none⟩ = some (.int .i64 T.nm) ∧ X.cell? ⟨w.heap.size,2,none⟩ = some (.string T.st) ∧ X.cell? ⟨w.heap.size,3,none⟩ = some (.slice oL T.ls.length cL) ∧ X.cell? ⟨w.heap.size,4,none⟩ = some (.slice oM T.vs.length cM)) (by simp) (by kernel_rfl) (by kernel_rfl) (by kernel_rfl) (by kernel_rfl) (by kernel_rfl) (by kernel_rfl) ?_
 simp only [List.dropLast,List.getLast_cons_cons,List.getLast_singleton,List.length_cons,List.length_nil]
 have hS0 : W0.drew.cell? ⟨b,0,none⟩ = some (.slice on now.length cn) ∧ W0.drew.cell? ⟨b,1,none⟩ = some (.slice op E.length cp) ∧ W0.drew.cell? ⟨w.heap.size,0,none⟩ = some (.int .i64 T.kd) ∧ W0.drew.cell? ⟨w.heap.size,1,none⟩ = some (.int .i64 T.nm) ∧ W0.drew.cell? ⟨w.heap.size,2,none⟩ = some (.string T.st) ∧ W0.drew.cell? ⟨w.heap.size,3,none⟩ = some (.slice oL T.ls.length cL) ∧ W0.drew.cell? ⟨w.heap.size,4,none⟩ = some (.slice oM T.vs.length cM) := ⟨q0,q1,v0,v1,v2,v3,v4⟩
 refine take_h (i := 0) (v := ?_) rfl (by kernel_rfl) (by kernel_rfl) (by kernel_rfl) (fun _ _ _ h => h) (by rfl) ?_ hS0 ?_
 rotate_left
 ·(intro X hX; obtain ⟨hX1,hX2,hX3,hX4,hX5,hX6,hX7⟩ := hX; go_simp; try with_reducible rfl)
 simp only [Act.put,List.setIfInBounds_toArray,List.set_cons_zero,List.set_cons_succ]
 refine take_h (i := 1) (v := ?_) rfl (by kernel_rfl) (by kernel_rfl) (by kernel_rfl) (fun _ _ _ h => h) (by rfl) ?_ hS0 ?_
 rotate_left
 ·(intro X hX; obtain ⟨hX1,hX2,hX3,hX4,hX5,hX6,hX7⟩ := hX; go_simp; try with_reducible rfl)
 simp only [Act.put,List.setIfInBounds_toArray,List.set_cons_zero,List.set_cons_succ]
 refine take_h (i := 2) (v := ?_) rfl (by kernel_rfl) (by kernel_rfl) (by kernel_rfl) (fun _ _ _ h => h) (by rfl) ?_ hS0 ?_
 rotate_left
 ·(intro X hX; obtain ⟨hX1,hX2,hX3,hX4,hX5,hX6,hX7⟩ := hX; go_simp; try with_reducible rfl)
 simp only [Act.put,List.setIfInBounds_toArray,List.set_cons_zero,List.set_cons_succ]
 refine take_h (i := 3) (v := ?_) rfl (by kernel_rfl) (by kernel_rfl) (by kernel_rfl) (fun _ _ _ h => h) (by rfl) ?_ hS0 ?_
 rotate_left
 ·(intro X hX; obtain ⟨hX1,hX2,hX3,hX4,hX5,hX6,hX7⟩ := hX; go_simp; try with_reducible rfl)
 simp only [Act.put,List.setIfInBounds_toArray,List.set_cons_zero,List.set_cons_succ]
 refine take_h (i := 4) (v := ?_) rfl (by kernel_rfl) (by kernel_rfl) (by kernel_rfl) (fun _ _ _ h => h) (by rfl) ?_ hS0 ?_
 rotate_left
 ·(intro X hX; obtain ⟨hX1,hX2,hX3,hX4,hX5,hX6,hX7⟩ := hX; go_simp; try with_reducible rfl)
 simp only [Act.put,List.setIfInBounds_toArray,List.set_cons_zero,List.set_cons_succ]
 refine take_h (i := 5) (v := ?_) rfl (by kernel_rfl) (by kernel_rfl) (by kernel_rfl) (fun _ _ _ h => h) (by rfl) ?_ hS0 ?_
 rotate_left
 ·(intro X hX; obtain ⟨hX1,hX2,hX3,hX4,hX5,hX6,hX7⟩ := hX; go_simp; try with_reducible rfl)
 simp only [Act.put,List.setIfInBounds_toArray,List.set_cons_zero,List.set_cons_succ]
 refine take_h (i := 6) (v := ?_) rfl (by kernel_rfl) (by kernel_rfl) (by kernel_rfl) (fun _ _ _ h => h) (by rfl) ?_ hS0 ?_
 rotate_left
 ·(intro X hX; obtain ⟨hX1,hX2,hX3,hX4,hX5,hX6,hX7⟩ := hX; go_simp; try with_reducible rfl)
 simp only [Act.put,List.setIfInBounds_toArray,List.set_cons_zero,List.set_cons_succ]
 refine take_h (i := 7) (v := ?_) rfl (by kernel_rfl) (by kernel_rfl) (by kernel_rfl) (fun _ _ _ h => h) (by rfl) ?_ hS0 ?_
 rotate_left
 ·(intro X hX; obtain ⟨hX1,hX2,hX3,hX4,hX5,hX6,hX7⟩ := hX; go_simp; try with_reducible rfl)
 simp only [Act.put,List.setIfInBounds_toArray,List.set_cons_zero,List.set_cons_succ]
 refine take_h (i := 8) (v := ?_) rfl (by kernel_rfl) (by kernel_rfl) (by kernel_rfl) (fun _ _ _ h => h) (by rfl) ?_ hS0 ?_
 rotate_left
 ·(intro X hX; obtain ⟨hX1,hX2,hX3,hX4,hX5,hX6,hX7⟩ := hX; go_simp; try with_reducible rfl)
 simp only [Act.put,List.setIfInBounds_toArray,List.set_cons_zero,List.set_cons_succ]
 refine take_h (i := 10) (v := ?_) rfl (by kernel_rfl) (by kernel_rfl) (by kernel_rfl) (fun _ _ _ h => h) (by rfl) ?_ hS0 ?_
 rotate_left
 ·(intro X hX; obtain ⟨hX1,hX2,hX3,hX4,hX5,hX6,hX7⟩ := hX; go_simp; try with_reducible rfl)
 simp only [Act.put,List.setIfInBounds_toArray,List.set_cons_zero,List.set_cons_succ]
 refine step_h (i := 9) rfl (by kernel_rfl) ?_
 intro KK hKK
 have HC := hid (pclone_any now _ _ W0.drew HWK.out.ns (by omega))
 go_simp
 go_wp2_with (go_at_call 103; go_must (refine HC.out.mono ?_; rintro e w1 ⟨u,rfl,hu1,hb1⟩))
 obtain ⟨ou,cu,rfl⟩ := own_slice hu1
 replace hb1 : Below W0.heap.size W0 w1 := (Below.refl W0.heap.size W0).drew.trans hb1
 refine hKK.out _ _ ⟨keepCell hb1 q0,keepCell hb1 q1,keepCell hb1 v0,keepCell hb1 v1,keepCell hb1 v2,keepCell hb1 v3,keepCell hb1 v4⟩ (fun hS1 => ?_)
 clear hKK KK hS0
 refine step_h (i := 11) rfl (by kernel_rfl) ?_
 intro KK hKK
 have HT1 : Hid (HV w1 T (.slice oL T.ls.length cL) (.slice oM T.vs.length cM)) := hid (HTW.out.onto (vonto hb0 hb1))
 go_simp
 go_wp2_with (go_at_call 63; go_must (refine (HCP.out _ HT1.out).mono ?_; rintro e w2 ⟨X,Y,rfl,hf2,hb2⟩))
 have hv2 := hf2.hv
 obtain ⟨p1,m1,k1,p2,m2,k2,rfl,rfl⟩ := hv_slices hv2
 have hb2 : Below W0.heap.size W0 w2 := vonto hb1 hb2
 have hu2 := ownsRow_below hu1 (by assumption)
 refine hKK.out _ _ ⟨keepCell hb2 q0,keepCell hb2 q1,keepCell hb2 v0,keepCell hb2 v1,keepCell hb2 v2,keepCell hb2 v3,keepCell hb2 v4⟩ (fun hS2 => ?_)
 clear hKK KK hS1
 refine take_h (i := 12) (v := ?_) rfl (by kernel_rfl) (by kernel_rfl) (by kernel_rfl) (fun _ _ _ h => h) (by rfl) ?_ hS2 ?_
 rotate_left
 ·(intro X hX; obtain ⟨hX1,hX2,hX3,hX4,hX5,hX6,hX7⟩ := hX; go_simp; try with_reducible rfl)
 simp only [Act.put,List.setIfInBounds_toArray,List.set_cons_zero,List.set_cons_succ]
 refine step_h (i := 13) rfl (by kernel_rfl) ?_
 intro KK hKK
 go_simp
 have hbx : Below W0.heap.size W0 (w2.alloc (.cells #[.slice ou now.length cu,.int .i64 T.kd,.int .i64 T.nm,.string T.st,.slice p1 m1 k1,.slice p2 m2 k2] 43)) := valloc_bel hb2 _
 refine hKK.out _ _ ⟨keepCell hbx q0,keepCell hbx q1,keepCell hbx v0,keepCell hbx v1,keepCell hbx v2,keepCell hbx v3,keepCell hbx v4⟩ (fun hS3 => ?_)
 clear hKK KK hS2
 refine step_h (i := 14) rfl (by kernel_rfl) ?_
 intro KK hKK
 have hwx := HWK.out.onto hbx
 have hs2 := hb2.size
 have hEl : E.length + 1 ≤ 2000000 := by have := szT_pos T; omega
 refine step_append_lies _ (by rfl) _ _ _ (by rfl) W.heap.size 43 i1 (.agg #[.slice none 0 0,.int .i64 0,.int .i64 0,.string ⟨#[]⟩,.slice none 0 0,.slice none 0 0]) 6 104 Tryz.underlying38 hi' hz0' hz1' hz2' rfl (by decide) _ E.length _ (by rfl) hwx.ps ⟨w2.heap.size,0,none⟩ 1 1 [.slice ou now.length cu,.int .i64 T.kd,.int .i64 T.nm,.string T.st,.slice p1 m1 k1,.slice p2 m2 k2] (by rfl) rfl (new_cells w2 _ 43) (by intro u hu; simp at hu; rcases hu with rfl | rfl | rfl | rfl | rfl | rfl <;> rfl) (by decide) (by unfold maxLen; omega) (by omega) (by have := hwx.bel.size; exact this) (w2.heap.size + 1) (by simp) ?_
 intro g9 cap9 w9 hown9 hgr9 hat9 hlt9
 have hux : OwnS W (w2.alloc (.cells #[.slice ou now.length cu,.int .i64 T.kd,.int .i64 T.nm,.string T.st,.slice p1 m1 k1,.slice p2 m2 k2] 43)) (.slice ou now.length cu) now := own_base (hu2.alloc _) (by have := HWK.out.bel.size; exact this)
 have hun : (Value.slice ou now.length cu).ownBlock = none ∨ (Value.slice ou now.length cu).ownBlock ≠ (Value.slice on now.length cn).ownBlock := by
  cases hv : (Value.slice ou now.length cu).ownBlock with
  | none => exact .inl rfl
  | some k =>
   refine .inr fun hh => ?_
   have h1 := (hu1.lt k hv).1
   have h2 := (HWK.out.ns.lt k hh.symm).2
   have h3 : W0.drew.heap.size = W0.heap.size := rfl
   omega
 have hd := hwx.more ⟨now,T,.slice ou now.length cu,.slice p1 m1 k1,.slice p2 m2 k2⟩ hux hun ⟨HBR.out,fun w' => hv_bare hv2 HBR.out.1 HBR.out.2⟩ hown9 hgr9
 have hbne := off_ne (own_off hwx.ps hwx.box (by decide))
 have hbx9 := (hgr9.block b hwx.lt hbne).trans hwx.box
 have c90 : w9.cell? ⟨b,0,none⟩ = some (.slice on now.length cn) := by rw [cell_of_row w9 b 0 _ _ _ hbx9]; rfl
 have c91 : w9.cell? ⟨b,1,none⟩ = some (.slice op E.length cp) := by rw [cell_of_row w9 b 1 _ _ _ hbx9]; rfl
 have hf9 : w9.frozen? ⟨b,1,none⟩ = false := by simp [World.frozen?,hbx9]
 have kp9 : ∀ (o : Nat) (u : Value),W0.cell? ⟨w.heap.size,o,none⟩ = some u → w9.cell? ⟨w.heap.size,o,none⟩ = some u := fun o u h => by
  rw [World.cell?_of_block (hgr9.block w.heap.size (by have := hbx.size; omega) (fun e => by have := hpl _ e.symm; omega))]
  exact keepCell hbx h
 refine hKK.out _ _ ⟨c90,c91,kp9 _ _ v0,kp9 _ _ v1,kp9 _ _ v2,kp9 _ _ v3,kp9 _ _ v4⟩ (fun hS4 => ?_)
 clear hKK KK hS3
 simp only [Act.put,List.setIfInBounds_toArray,List.set_cons_zero,List.set_cons_succ]
 refine take_h (i := 15) (v := ?_) rfl (by kernel_rfl) (by kernel_rfl) (by kernel_rfl) (fun _ _ _ h => h) (by rfl) ?_ hS4 ?_
 rotate_left
 ·(intro X hX; obtain ⟨hX1,hX2,hX3,hX4,hX5,hX6,hX7⟩ := hX; go_simp; try with_reducible rfl)
 simp only [Act.put,List.setIfInBounds_toArray,List.set_cons_zero,List.set_cons_succ]
 refine take_h (i := 16) (v := ?_) rfl (by kernel_rfl) (by kernel_rfl) (by kernel_rfl) (fun _ _ _ h => h) (by rfl) ?_ hS4 ?_
 rotate_left
 ·(intro X hX; obtain ⟨hX1,hX2,hX3,hX4,hX5,hX6,hX7⟩ := hX; go_simp; try with_reducible rfl)
 simp only [Act.put,List.setIfInBounds_toArray,List.set_cons_zero,List.set_cons_succ]
 refine wpAnyH_done (by kernel_rfl) ?_ _
 change Oper.wp _ _ _ _ _ _
 have HD := hid hd
 clear hd hgr9 hown9 hS4 hwx hux hun hu1 hu2 hbne hbx9 c90 q0 q1 hpl hat9 hlt9 hi' hz0' hz1' hz2' v0 v1 v2 v3 v4 kp9 hbx hb1 hb2 hv2 hf2
 go_simp
 generalize w9.setCell ⟨b,1,none⟩ (.slice (some ⟨g9,0,none⟩) (E.length + 1) cap9) = wA at *
 go_wp2_with fail
 refine bodyPost_end (v := .tuple #[]) (by simp [results,Tryz.results56,go_sem]) rfl ?_
 exact ⟨rfl,_,_,_,HD.out,by rw [HALL.out]; simp [LE.pt]⟩
end Go.Proofs.YteimbjamnfkapaaGreatDoor
/- flat: a node visited: another way. -/
namespace Go.Proofs.YteimbjamnfkapaaGreatDoor
open Go.RowKit
set_option maxRecDepth 100000 in
set_option maxHeartbeats 4000000 in
theorem lvisit_leaf6 (W : World) (T : VT) (x y : Value) (b : Nat) (nv pv0 : Value) (now : List PStep) (E : List LE) (w : World) (hP : plainT T = true) (hT : HV W T x y) (hW : Lk W b nv pv0 now E w) (hn : now.length + szT T ≤ 2000000) (hE : E.length + szT T ≤ 2000000) (hsz0 : szT T ≤ 1000000) (hk6 : T.kd = 6) (hl0 : T.vs.length = 0) :
  Calls Tryz.prog 56 #[.pointer (some ⟨b,0,none⟩),vv T x y] w fun e w' => e = .returned (.tuple #[]) ∧ ∃ nv2 pv2 E2,Lk W b nv2 pv2 now E2 w' ∧ E2.map LE.pt = E.map LE.pt ++ lfT T now := by
 have HN5 := hid (show ¬ (T.kd = 5 ∧ 0 < T.ls.length) by omega)
 have HN6 := hid (show ¬ (T.kd = 6 ∧ 0 < T.vs.length) by omega)
 have t5 : (T.kd == 5) = false := by simp; omega
 have t6 : (T.kd == 6) = true := by simpa using hk6
 have hl1 : ¬ ((0 : Int) < (T.vs.length : Int)) := by omega
 clear hk6 hl0
 have HALL := hid (show lfT T now = [(now,T)] by rw [lfT_at,if_neg HN5.out,if_neg HN6.out])
 have HBR := hid (leaf_bare hP HN5.out HN6.out)
 have HTW := hid (hT.onto hW.bel)
 obtain ⟨al,bl,f,g,p,q,oL,oM,cL,cM,rfl,rfl,-,-,hL3,hM3,hK,-,hlL,hlM,kL,kK,kM,rL,rM,-,-⟩ := hT.parts
 obtain ⟨i1,hi',hz0',hz1',hz2'⟩ := info_parts Tryz.infoLeaf
 obtain ⟨⟨on,cn,rfl⟩,⟨op,cp,rfl⟩⟩ := hW.slices
 have HW := hid (fun X (hX : Below w.heap.size w X) => hW.onto hX)
 have hltb := hW.lt
 have HCP := hid (fun (X : World) (hX : HV X T (.slice oL T.ls.length cL) (.slice oM T.vs.length cM)) => vcopy_any (szT T) T (Nat.le_refl _) hsz0 _ _ X hX)
 have HSZ := hid hsz0
 clear hT hW kL kK kM rL rM hK hL3 hM3 HN5 HN6 hP hsz0
 simp only [vv] at HCP ⊢
 go_enter Tryz.func56,Tryz.ntmps56
 go_wp2_with fail
 have hb0 : Below w.heap.size w (w.alloc (.cells #[.int .i64 T.kd,.int .i64 T.nm,.string T.st,.slice oL T.ls.length cL,.slice oM T.vs.length cM] 29)) := valloc_bel (Below.refl _ _) _
 have hc0 : ∀ (o : Nat) (u : Value),[Value.int .i64 T.kd,.int .i64 T.nm,.string T.st,.slice oL T.ls.length cL,.slice oM T.vs.length cM][o]? = some u → (w.alloc (.cells #[.int .i64 T.kd,.int .i64 T.nm,.string T.st,.slice oL T.ls.length cL,.slice oM T.vs.length cM] 29)).cell? ⟨w.heap.size,o,none⟩ = some u := fun o u h => by
  have := new_cells w [Value.int .i64 T.kd,.int .i64 T.nm,.string T.st,.slice oL T.ls.length cL,.slice oM T.vs.length cM] 29 o u h
  rwa [add_at] at this
 have hk0 := hc0 0 _ rfl
 have hk3 := hc0 3 _ rfl
 have hk4 := hc0 4 _ rfl
 clear hl1 t5 t6
 clear hk0 hk3 hk4
 have hwk := HW.out _ hb0
 obtain ⟨W0,hw0⟩ : ∃ W0,W0 = (w.alloc (.cells #[.int .i64 T.kd,.int .i64 T.nm,.string T.st,.slice oL T.ls.length cL,.slice oM T.vs.length cM] 29)) := ⟨_,rfl⟩
 rw [← hw0] at hb0 hc0 hwk ⊢
 have hsz0 : W0.heap.size = w.heap.size + 1 := by rw [hw0]; simp
 have hpl : ∀ k,(Value.slice op E.length cp).ownBlock = some k → k < w.heap.size := fun k hk => ((HW.out w (Below.refl _ _)).ps.lt k hk).2
 obtain ⟨q0,q1,-⟩ := hwk.cells
 have v0 := hc0 0 _ rfl
 have v1 := hc0 1 _ rfl
 have v2 := hc0 2 _ rfl
 have v3 := hc0 3 _ rfl
 have v4 := hc0 4 _ rfl
 have HWK := hid hwk
 clear hw0 hc0
 refine wp_region_ends2 (S := fun X => X.cell? ⟨b,0,none⟩ = some (.slice on now.length cn) ∧ X.cell? ⟨b,1,none⟩ = some (.slice op E.length cp) ∧ X.cell? ⟨w.heap.size,0,none⟩ = some (.int .i64 T.kd) ∧ X.cell? ⟨w.heap.size,1,none⟩ = some (.int .i64 T.nm) ∧ X.cell? ⟨w.heap.size,2,none⟩ = some (.string T.st) ∧ X.cell? ⟨w.heap.size,3,none⟩ = some (.slice oL T.ls.length cL) ∧ X.cell? ⟨w.heap.size,4,none⟩ = some (.slice oM T.vs.length cM)) (by simp) (by kernel_rfl) (by kernel_rfl) (by kernel_rfl) (by kernel_rfl) (by kernel_rfl) (by kernel_rfl) ?_
 simp only [List.dropLast,List.getLast_cons_cons,List.getLast_singleton,List.length_cons,List.length_nil]
 have hS0 : W0.drew.cell? ⟨b,0,none⟩ = some (.slice on now.length cn) ∧ W0.drew.cell? ⟨b,1,none⟩ = some (.slice op E.length cp) ∧ W0.drew.cell? ⟨w.heap.size,0,none⟩ = some (.int .i64 T.kd) ∧ W0.drew.cell? ⟨w.heap.size,1,none⟩ = some (.int .i64 T.nm) ∧ W0.drew.cell? ⟨w.heap.size,2,none⟩ = some (.string T.st) ∧ W0.drew.cell? ⟨w.heap.size,3,none⟩ = some (.slice oL T.ls.length cL) ∧ W0.drew.cell? ⟨w.heap.size,4,none⟩ = some (.slice oM T.vs.length cM) := ⟨q0,q1,v0,v1,v2,v3,v4⟩
 refine take_h (i := 0) (v := ?_) rfl (by kernel_rfl) (by kernel_rfl) (by kernel_rfl) (fun _ _ _ h => h) (by rfl) ?_ hS0 ?_
 rotate_left
 ·(intro X hX; obtain ⟨hX1,hX2,hX3,hX4,hX5,hX6,hX7⟩ := hX; go_simp; try with_reducible rfl)
 simp only [Act.put,List.setIfInBounds_toArray,List.set_cons_zero,List.set_cons_succ]
 refine take_h (i := 1) (v := ?_) rfl (by kernel_rfl) (by kernel_rfl) (by kernel_rfl) (fun _ _ _ h => h) (by rfl) ?_ hS0 ?_
 rotate_left
 ·(intro X hX; obtain ⟨hX1,hX2,hX3,hX4,hX5,hX6,hX7⟩ := hX; go_simp; try with_reducible rfl)
 simp only [Act.put,List.setIfInBounds_toArray,List.set_cons_zero,List.set_cons_succ]
 refine take_h (i := 2) (v := ?_) rfl (by kernel_rfl) (by kernel_rfl) (by kernel_rfl) (fun _ _ _ h => h) (by rfl) ?_ hS0 ?_
 rotate_left
 ·(intro X hX; obtain ⟨hX1,hX2,hX3,hX4,hX5,hX6,hX7⟩ := hX; go_simp; try with_reducible rfl)
 simp only [Act.put,List.setIfInBounds_toArray,List.set_cons_zero,List.set_cons_succ]
 refine take_h (i := 3) (v := ?_) rfl (by kernel_rfl) (by kernel_rfl) (by kernel_rfl) (fun _ _ _ h => h) (by rfl) ?_ hS0 ?_
 rotate_left
 ·(intro X hX; obtain ⟨hX1,hX2,hX3,hX4,hX5,hX6,hX7⟩ := hX; go_simp; try with_reducible rfl)
 simp only [Act.put,List.setIfInBounds_toArray,List.set_cons_zero,List.set_cons_succ]
 refine take_h (i := 4) (v := ?_) rfl (by kernel_rfl) (by kernel_rfl) (by kernel_rfl) (fun _ _ _ h => h) (by rfl) ?_ hS0 ?_
 rotate_left
 ·(intro X hX; obtain ⟨hX1,hX2,hX3,hX4,hX5,hX6,hX7⟩ := hX; go_simp; try with_reducible rfl)
 simp only [Act.put,List.setIfInBounds_toArray,List.set_cons_zero,List.set_cons_succ]
 refine take_h (i := 5) (v := ?_) rfl (by kernel_rfl) (by kernel_rfl) (by kernel_rfl) (fun _ _ _ h => h) (by rfl) ?_ hS0 ?_
 rotate_left
 ·(intro X hX; obtain ⟨hX1,hX2,hX3,hX4,hX5,hX6,hX7⟩ := hX; go_simp; try with_reducible rfl)
 simp only [Act.put,List.setIfInBounds_toArray,List.set_cons_zero,List.set_cons_succ]
 refine take_h (i := 6) (v := ?_) rfl (by kernel_rfl) (by kernel_rfl) (by kernel_rfl) (fun _ _ _ h => h) (by rfl) ?_ hS0 ?_
 rotate_left
 ·(intro X hX; obtain ⟨hX1,hX2,hX3,hX4,hX5,hX6,hX7⟩ := hX; go_simp; try with_reducible rfl)
 simp only [Act.put,List.setIfInBounds_toArray,List.set_cons_zero,List.set_cons_succ]
 refine take_h (i := 7) (v := ?_) rfl (by kernel_rfl) (by kernel_rfl) (by kernel_rfl) (fun _ _ _ h => h) (by rfl) ?_ hS0 ?_
 rotate_left
 ·(intro X hX; obtain ⟨hX1,hX2,hX3,hX4,hX5,hX6,hX7⟩ := hX; go_simp; try with_reducible rfl)
 simp only [Act.put,List.setIfInBounds_toArray,List.set_cons_zero,List.set_cons_succ]
 refine take_h (i := 8) (v := ?_) rfl (by kernel_rfl) (by kernel_rfl) (by kernel_rfl) (fun _ _ _ h => h) (by rfl) ?_ hS0 ?_
 rotate_left
 ·(intro X hX; obtain ⟨hX1,hX2,hX3,hX4,hX5,hX6,hX7⟩ := hX; go_simp; try with_reducible rfl)
 simp only [Act.put,List.setIfInBounds_toArray,List.set_cons_zero,List.set_cons_succ]
 refine take_h (i := 10) (v := ?_) rfl (by kernel_rfl) (by kernel_rfl) (by kernel_rfl) (fun _ _ _ h => h) (by rfl) ?_ hS0 ?_
 rotate_left
 ·(intro X hX; obtain ⟨hX1,hX2,hX3,hX4,hX5,hX6,hX7⟩ := hX; go_simp; try with_reducible rfl)
 simp only [Act.put,List.setIfInBounds_toArray,List.set_cons_zero,List.set_cons_succ]
 refine step_h (i := 9) rfl (by kernel_rfl) ?_
 intro KK hKK
 have HC := hid (pclone_any now _ _ W0.drew HWK.out.ns (by omega))
 go_simp
 go_wp2_with (go_at_call 103; go_must (refine HC.out.mono ?_; rintro e w1 ⟨u,rfl,hu1,hb1⟩))
 obtain ⟨ou,cu,rfl⟩ := own_slice hu1
 replace hb1 : Below W0.heap.size W0 w1 := (Below.refl W0.heap.size W0).drew.trans hb1
 refine hKK.out _ _ ⟨keepCell hb1 q0,keepCell hb1 q1,keepCell hb1 v0,keepCell hb1 v1,keepCell hb1 v2,keepCell hb1 v3,keepCell hb1 v4⟩ (fun hS1 => ?_)
 clear hKK KK hS0
 refine step_h (i := 11) rfl (by kernel_rfl) ?_
 intro KK hKK
 have HT1 : Hid (HV w1 T (.slice oL T.ls.length cL) (.slice oM T.vs.length cM)) := hid (HTW.out.onto (vonto hb0 hb1))
 go_simp
 go_wp2_with (go_at_call 63; go_must (refine (HCP.out _ HT1.out).mono ?_; rintro e w2 ⟨X,Y,rfl,hf2,hb2⟩))
 have hv2 := hf2.hv
 obtain ⟨p1,m1,k1,p2,m2,k2,rfl,rfl⟩ := hv_slices hv2
 have hb2 : Below W0.heap.size W0 w2 := vonto hb1 hb2
 have hu2 := ownsRow_below hu1 (by assumption)
 refine hKK.out _ _ ⟨keepCell hb2 q0,keepCell hb2 q1,keepCell hb2 v0,keepCell hb2 v1,keepCell hb2 v2,keepCell hb2 v3,keepCell hb2 v4⟩ (fun hS2 => ?_)
 clear hKK KK hS1
 refine take_h (i := 12) (v := ?_) rfl (by kernel_rfl) (by kernel_rfl) (by kernel_rfl) (fun _ _ _ h => h) (by rfl) ?_ hS2 ?_
 rotate_left
 ·(intro X hX; obtain ⟨hX1,hX2,hX3,hX4,hX5,hX6,hX7⟩ := hX; go_simp; try with_reducible rfl)
 simp only [Act.put,List.setIfInBounds_toArray,List.set_cons_zero,List.set_cons_succ]
 refine step_h (i := 13) rfl (by kernel_rfl) ?_
 intro KK hKK
 go_simp
 have hbx : Below W0.heap.size W0 (w2.alloc (.cells #[.slice ou now.length cu,.int .i64 T.kd,.int .i64 T.nm,.string T.st,.slice p1 m1 k1,.slice p2 m2 k2] 43)) := valloc_bel hb2 _
 refine hKK.out _ _ ⟨keepCell hbx q0,keepCell hbx q1,keepCell hbx v0,keepCell hbx v1,keepCell hbx v2,keepCell hbx v3,keepCell hbx v4⟩ (fun hS3 => ?_)
 clear hKK KK hS2
 refine step_h (i := 14) rfl (by kernel_rfl) ?_
 intro KK hKK
 have hwx := HWK.out.onto hbx
 have hs2 := hb2.size
 have hEl : E.length + 1 ≤ 2000000 := by have := szT_pos T; omega
 refine step_append_lies _ (by rfl) _ _ _ (by rfl) W.heap.size 43 i1 (.agg #[.slice none 0 0,.int .i64 0,.int .i64 0,.string ⟨#[]⟩,.slice none 0 0,.slice none 0 0]) 6 104 Tryz.underlying38 hi' hz0' hz1' hz2' rfl (by decide) _ E.length _ (by rfl) hwx.ps ⟨w2.heap.size,0,none⟩ 1 1 [.slice ou now.length cu,.int .i64 T.kd,.int .i64 T.nm,.string T.st,.slice p1 m1 k1,.slice p2 m2 k2] (by rfl) rfl (new_cells w2 _ 43) (by intro u hu; simp at hu; rcases hu with rfl | rfl | rfl | rfl | rfl | rfl <;> rfl) (by decide) (by unfold maxLen; omega) (by omega) (by have := hwx.bel.size; exact this) (w2.heap.size + 1) (by simp) ?_
 intro g9 cap9 w9 hown9 hgr9 hat9 hlt9
 have hux : OwnS W (w2.alloc (.cells #[.slice ou now.length cu,.int .i64 T.kd,.int .i64 T.nm,.string T.st,.slice p1 m1 k1,.slice p2 m2 k2] 43)) (.slice ou now.length cu) now := own_base (hu2.alloc _) (by have := HWK.out.bel.size; exact this)
 have hun : (Value.slice ou now.length cu).ownBlock = none ∨ (Value.slice ou now.length cu).ownBlock ≠ (Value.slice on now.length cn).ownBlock := by
  cases hv : (Value.slice ou now.length cu).ownBlock with
  | none => exact .inl rfl
  | some k =>
   refine .inr fun hh => ?_
   have h1 := (hu1.lt k hv).1
   have h2 := (HWK.out.ns.lt k hh.symm).2
   have h3 : W0.drew.heap.size = W0.heap.size := rfl
   omega
 have hd := hwx.more ⟨now,T,.slice ou now.length cu,.slice p1 m1 k1,.slice p2 m2 k2⟩ hux hun ⟨HBR.out,fun w' => hv_bare hv2 HBR.out.1 HBR.out.2⟩ hown9 hgr9
 have hbne := off_ne (own_off hwx.ps hwx.box (by decide))
 have hbx9 := (hgr9.block b hwx.lt hbne).trans hwx.box
 have c90 : w9.cell? ⟨b,0,none⟩ = some (.slice on now.length cn) := by rw [cell_of_row w9 b 0 _ _ _ hbx9]; rfl
 have c91 : w9.cell? ⟨b,1,none⟩ = some (.slice op E.length cp) := by rw [cell_of_row w9 b 1 _ _ _ hbx9]; rfl
 have hf9 : w9.frozen? ⟨b,1,none⟩ = false := by simp [World.frozen?,hbx9]
 have kp9 : ∀ (o : Nat) (u : Value),W0.cell? ⟨w.heap.size,o,none⟩ = some u → w9.cell? ⟨w.heap.size,o,none⟩ = some u := fun o u h => by
  rw [World.cell?_of_block (hgr9.block w.heap.size (by have := hbx.size; omega) (fun e => by have := hpl _ e.symm; omega))]
  exact keepCell hbx h
 refine hKK.out _ _ ⟨c90,c91,kp9 _ _ v0,kp9 _ _ v1,kp9 _ _ v2,kp9 _ _ v3,kp9 _ _ v4⟩ (fun hS4 => ?_)
 clear hKK KK hS3
 simp only [Act.put,List.setIfInBounds_toArray,List.set_cons_zero,List.set_cons_succ]
 refine take_h (i := 15) (v := ?_) rfl (by kernel_rfl) (by kernel_rfl) (by kernel_rfl) (fun _ _ _ h => h) (by rfl) ?_ hS4 ?_
 rotate_left
 ·(intro X hX; obtain ⟨hX1,hX2,hX3,hX4,hX5,hX6,hX7⟩ := hX; go_simp; try with_reducible rfl)
 simp only [Act.put,List.setIfInBounds_toArray,List.set_cons_zero,List.set_cons_succ]
 refine take_h (i := 16) (v := ?_) rfl (by kernel_rfl) (by kernel_rfl) (by kernel_rfl) (fun _ _ _ h => h) (by rfl) ?_ hS4 ?_
 rotate_left
 ·(intro X hX; obtain ⟨hX1,hX2,hX3,hX4,hX5,hX6,hX7⟩ := hX; go_simp; try with_reducible rfl)
 simp only [Act.put,List.setIfInBounds_toArray,List.set_cons_zero,List.set_cons_succ]
 refine wpAnyH_done (by kernel_rfl) ?_ _
 change Oper.wp _ _ _ _ _ _
 have HD := hid hd
 clear hd hgr9 hown9 hS4 hwx hux hun hu1 hu2 hbne hbx9 c90 q0 q1 hpl hat9 hlt9 hi' hz0' hz1' hz2' v0 v1 v2 v3 v4 kp9 hbx hb1 hb2 hv2 hf2
 go_simp
 generalize w9.setCell ⟨b,1,none⟩ (.slice (some ⟨g9,0,none⟩) (E.length + 1) cap9) = wA at *
 go_wp2_with fail
 refine bodyPost_end (v := .tuple #[]) (by simp [results,Tryz.results56,go_sem]) rfl ?_
 exact ⟨rfl,_,_,_,HD.out,by rw [HALL.out]; simp [LE.pt]⟩
set_option maxRecDepth 100000 in
set_option maxHeartbeats 4000000 in
theorem lvisit_leafo (W : World) (T : VT) (x y : Value) (b : Nat) (nv pv0 : Value) (now : List PStep) (E : List LE) (w : World) (hP : plainT T = true) (hT : HV W T x y) (hW : Lk W b nv pv0 now E w) (hn : now.length + szT T ≤ 2000000) (hE : E.length + szT T ≤ 2000000) (hsz0 : szT T ≤ 1000000) (hk5 : ¬ T.kd = 5) (hk6 : ¬ T.kd = 6) :
  Calls Tryz.prog 56 #[.pointer (some ⟨b,0,none⟩),vv T x y] w fun e w' => e = .returned (.tuple #[]) ∧ ∃ nv2 pv2 E2,Lk W b nv2 pv2 now E2 w' ∧ E2.map LE.pt = E.map LE.pt ++ lfT T now := by
 have HN5 := hid (show ¬ (T.kd = 5 ∧ 0 < T.ls.length) by omega)
 have HN6 := hid (show ¬ (T.kd = 6 ∧ 0 < T.vs.length) by omega)
 have t5 : (T.kd == 5) = false := by simpa using hk5
 have t6 : (T.kd == 6) = false := by simpa using hk6
 clear hk5 hk6
 have HALL := hid (show lfT T now = [(now,T)] by rw [lfT_at,if_neg HN5.out,if_neg HN6.out])
 have HBR := hid (leaf_bare hP HN5.out HN6.out)
 have HTW := hid (hT.onto hW.bel)
 obtain ⟨al,bl,f,g,p,q,oL,oM,cL,cM,rfl,rfl,-,-,hL3,hM3,hK,-,hlL,hlM,kL,kK,kM,rL,rM,-,-⟩ := hT.parts
 obtain ⟨i1,hi',hz0',hz1',hz2'⟩ := info_parts Tryz.infoLeaf
 obtain ⟨⟨on,cn,rfl⟩,⟨op,cp,rfl⟩⟩ := hW.slices
 have HW := hid (fun X (hX : Below w.heap.size w X) => hW.onto hX)
 have hltb := hW.lt
 have HCP := hid (fun (X : World) (hX : HV X T (.slice oL T.ls.length cL) (.slice oM T.vs.length cM)) => vcopy_any (szT T) T (Nat.le_refl _) hsz0 _ _ X hX)
 have HSZ := hid hsz0
 clear hT hW kL kK kM rL rM hK hL3 hM3 HN5 HN6 hP hsz0
 simp only [vv] at HCP ⊢
 go_enter Tryz.func56,Tryz.ntmps56
 go_wp2_with fail
 have hb0 : Below w.heap.size w (w.alloc (.cells #[.int .i64 T.kd,.int .i64 T.nm,.string T.st,.slice oL T.ls.length cL,.slice oM T.vs.length cM] 29)) := valloc_bel (Below.refl _ _) _
 have hc0 : ∀ (o : Nat) (u : Value),[Value.int .i64 T.kd,.int .i64 T.nm,.string T.st,.slice oL T.ls.length cL,.slice oM T.vs.length cM][o]? = some u → (w.alloc (.cells #[.int .i64 T.kd,.int .i64 T.nm,.string T.st,.slice oL T.ls.length cL,.slice oM T.vs.length cM] 29)).cell? ⟨w.heap.size,o,none⟩ = some u := fun o u h => by
  have := new_cells w [Value.int .i64 T.kd,.int .i64 T.nm,.string T.st,.slice oL T.ls.length cL,.slice oM T.vs.length cM] 29 o u h
  rwa [add_at] at this
 have hk0 := hc0 0 _ rfl
 have hk3 := hc0 3 _ rfl
 have hk4 := hc0 4 _ rfl
 clear t5 t6 hk0 hk3 hk4
 have hwk := HW.out _ hb0
 obtain ⟨W0,hw0⟩ : ∃ W0,W0 = (w.alloc (.cells #[.int .i64 T.kd,.int .i64 T.nm,.string T.st,.slice oL T.ls.length cL,.slice oM T.vs.length cM] 29)) := ⟨_,rfl⟩
 rw [← hw0] at hb0 hc0 hwk ⊢
 have hsz0 : W0.heap.size = w.heap.size + 1 := by rw [hw0]; simp
 have hpl : ∀ k,(Value.slice op E.length cp).ownBlock = some k → k < w.heap.size := fun k hk => ((HW.out w (Below.refl _ _)).ps.lt k hk).2
 obtain ⟨q0,q1,-⟩ := hwk.cells
 have v0 := hc0 0 _ rfl
 have v1 := hc0 1 _ rfl
 have v2 := hc0 2 _ rfl
 have v3 := hc0 3 _ rfl
 have v4 := hc0 4 _ rfl
 have HWK := hid hwk
 clear hw0 hc0
 refine wp_region_ends2 (S := fun X => X.cell? ⟨b,0,none⟩ = some (.slice on now.length cn) ∧ X.cell? ⟨b,1,none⟩ = some (.slice op E.length cp) ∧ X.cell? ⟨w.heap.size,0,none⟩ = some (.int .i64 T.kd) ∧ X.cell? ⟨w.heap.size,1,none⟩ = some (.int .i64 T.nm) ∧ X.cell? ⟨w.heap.size,2,none⟩ = some (.string T.st) ∧ X.cell? ⟨w.heap.size,3,none⟩ = some (.slice oL T.ls.length cL) ∧ X.cell? ⟨w.heap.size,4,none⟩ = some (.slice oM T.vs.length cM)) (by simp) (by kernel_rfl) (by kernel_rfl) (by kernel_rfl) (by kernel_rfl) (by kernel_rfl) (by kernel_rfl) ?_
 simp only [List.dropLast,List.getLast_cons_cons,List.getLast_singleton,List.length_cons,List.length_nil]
 have hS0 : W0.drew.cell? ⟨b,0,none⟩ = some (.slice on now.length cn) ∧ W0.drew.cell? ⟨b,1,none⟩ = some (.slice op E.length cp) ∧ W0.drew.cell? ⟨w.heap.size,0,none⟩ = some (.int .i64 T.kd) ∧ W0.drew.cell? ⟨w.heap.size,1,none⟩ = some (.int .i64 T.nm) ∧ W0.drew.cell? ⟨w.heap.size,2,none⟩ = some (.string T.st) ∧ W0.drew.cell? ⟨w.heap.size,3,none⟩ = some (.slice oL T.ls.length cL) ∧ W0.drew.cell? ⟨w.heap.size,4,none⟩ = some (.slice oM T.vs.length cM) := ⟨q0,q1,v0,v1,v2,v3,v4⟩
 refine take_h (i := 0) (v := ?_) rfl (by kernel_rfl) (by kernel_rfl) (by kernel_rfl) (fun _ _ _ h => h) (by rfl) ?_ hS0 ?_
 rotate_left
 ·(intro X hX; obtain ⟨hX1,hX2,hX3,hX4,hX5,hX6,hX7⟩ := hX; go_simp; try with_reducible rfl)
 simp only [Act.put,List.setIfInBounds_toArray,List.set_cons_zero,List.set_cons_succ]
 refine take_h (i := 1) (v := ?_) rfl (by kernel_rfl) (by kernel_rfl) (by kernel_rfl) (fun _ _ _ h => h) (by rfl) ?_ hS0 ?_
 rotate_left
 ·(intro X hX; obtain ⟨hX1,hX2,hX3,hX4,hX5,hX6,hX7⟩ := hX; go_simp; try with_reducible rfl)
 simp only [Act.put,List.setIfInBounds_toArray,List.set_cons_zero,List.set_cons_succ]
 refine take_h (i := 2) (v := ?_) rfl (by kernel_rfl) (by kernel_rfl) (by kernel_rfl) (fun _ _ _ h => h) (by rfl) ?_ hS0 ?_
 rotate_left
 ·(intro X hX; obtain ⟨hX1,hX2,hX3,hX4,hX5,hX6,hX7⟩ := hX; go_simp; try with_reducible rfl)
 simp only [Act.put,List.setIfInBounds_toArray,List.set_cons_zero,List.set_cons_succ]
 refine take_h (i := 3) (v := ?_) rfl (by kernel_rfl) (by kernel_rfl) (by kernel_rfl) (fun _ _ _ h => h) (by rfl) ?_ hS0 ?_
 rotate_left
 ·(intro X hX; obtain ⟨hX1,hX2,hX3,hX4,hX5,hX6,hX7⟩ := hX; go_simp; try with_reducible rfl)
 simp only [Act.put,List.setIfInBounds_toArray,List.set_cons_zero,List.set_cons_succ]
 refine take_h (i := 4) (v := ?_) rfl (by kernel_rfl) (by kernel_rfl) (by kernel_rfl) (fun _ _ _ h => h) (by rfl) ?_ hS0 ?_
 rotate_left
 ·(intro X hX; obtain ⟨hX1,hX2,hX3,hX4,hX5,hX6,hX7⟩ := hX; go_simp; try with_reducible rfl)
 simp only [Act.put,List.setIfInBounds_toArray,List.set_cons_zero,List.set_cons_succ]
 refine take_h (i := 5) (v := ?_) rfl (by kernel_rfl) (by kernel_rfl) (by kernel_rfl) (fun _ _ _ h => h) (by rfl) ?_ hS0 ?_
 rotate_left
 ·(intro X hX; obtain ⟨hX1,hX2,hX3,hX4,hX5,hX6,hX7⟩ := hX; go_simp; try with_reducible rfl)
 simp only [Act.put,List.setIfInBounds_toArray,List.set_cons_zero,List.set_cons_succ]
 refine take_h (i := 6) (v := ?_) rfl (by kernel_rfl) (by kernel_rfl) (by kernel_rfl) (fun _ _ _ h => h) (by rfl) ?_ hS0 ?_
 rotate_left
 ·(intro X hX; obtain ⟨hX1,hX2,hX3,hX4,hX5,hX6,hX7⟩ := hX; go_simp; try with_reducible rfl)
 simp only [Act.put,List.setIfInBounds_toArray,List.set_cons_zero,List.set_cons_succ]
 refine take_h (i := 7) (v := ?_) rfl (by kernel_rfl) (by kernel_rfl) (by kernel_rfl) (fun _ _ _ h => h) (by rfl) ?_ hS0 ?_
 rotate_left
 ·(intro X hX; obtain ⟨hX1,hX2,hX3,hX4,hX5,hX6,hX7⟩ := hX; go_simp; try with_reducible rfl)
 simp only [Act.put,List.setIfInBounds_toArray,List.set_cons_zero,List.set_cons_succ]
 refine take_h (i := 8) (v := ?_) rfl (by kernel_rfl) (by kernel_rfl) (by kernel_rfl) (fun _ _ _ h => h) (by rfl) ?_ hS0 ?_
 rotate_left
 ·(intro X hX; obtain ⟨hX1,hX2,hX3,hX4,hX5,hX6,hX7⟩ := hX; go_simp; try with_reducible rfl)
 simp only [Act.put,List.setIfInBounds_toArray,List.set_cons_zero,List.set_cons_succ]
 refine take_h (i := 10) (v := ?_) rfl (by kernel_rfl) (by kernel_rfl) (by kernel_rfl) (fun _ _ _ h => h) (by rfl) ?_ hS0 ?_
 rotate_left
 ·(intro X hX; obtain ⟨hX1,hX2,hX3,hX4,hX5,hX6,hX7⟩ := hX; go_simp; try with_reducible rfl)
 simp only [Act.put,List.setIfInBounds_toArray,List.set_cons_zero,List.set_cons_succ]
 refine step_h (i := 9) rfl (by kernel_rfl) ?_
 intro KK hKK
 have HC := hid (pclone_any now _ _ W0.drew HWK.out.ns (by omega))
 go_simp
 go_wp2_with (go_at_call 103; go_must (refine HC.out.mono ?_; rintro e w1 ⟨u,rfl,hu1,hb1⟩))
 obtain ⟨ou,cu,rfl⟩ := own_slice hu1
 replace hb1 : Below W0.heap.size W0 w1 := (Below.refl W0.heap.size W0).drew.trans hb1
 refine hKK.out _ _ ⟨keepCell hb1 q0,keepCell hb1 q1,keepCell hb1 v0,keepCell hb1 v1,keepCell hb1 v2,keepCell hb1 v3,keepCell hb1 v4⟩ (fun hS1 => ?_)
 clear hKK KK hS0
 refine step_h (i := 11) rfl (by kernel_rfl) ?_
 intro KK hKK
 have HT1 : Hid (HV w1 T (.slice oL T.ls.length cL) (.slice oM T.vs.length cM)) := hid (HTW.out.onto (vonto hb0 hb1))
 go_simp
 go_wp2_with (go_at_call 63; go_must (refine (HCP.out _ HT1.out).mono ?_; rintro e w2 ⟨X,Y,rfl,hf2,hb2⟩))
 have hv2 := hf2.hv
 obtain ⟨p1,m1,k1,p2,m2,k2,rfl,rfl⟩ := hv_slices hv2
 have hb2 : Below W0.heap.size W0 w2 := vonto hb1 hb2
 have hu2 := ownsRow_below hu1 (by assumption)
 refine hKK.out _ _ ⟨keepCell hb2 q0,keepCell hb2 q1,keepCell hb2 v0,keepCell hb2 v1,keepCell hb2 v2,keepCell hb2 v3,keepCell hb2 v4⟩ (fun hS2 => ?_)
 clear hKK KK hS1
 refine take_h (i := 12) (v := ?_) rfl (by kernel_rfl) (by kernel_rfl) (by kernel_rfl) (fun _ _ _ h => h) (by rfl) ?_ hS2 ?_
 rotate_left
 ·(intro X hX; obtain ⟨hX1,hX2,hX3,hX4,hX5,hX6,hX7⟩ := hX; go_simp; try with_reducible rfl)
 simp only [Act.put,List.setIfInBounds_toArray,List.set_cons_zero,List.set_cons_succ]
 refine step_h (i := 13) rfl (by kernel_rfl) ?_
 intro KK hKK
 go_simp
 have hbx : Below W0.heap.size W0 (w2.alloc (.cells #[.slice ou now.length cu,.int .i64 T.kd,.int .i64 T.nm,.string T.st,.slice p1 m1 k1,.slice p2 m2 k2] 43)) := valloc_bel hb2 _
 refine hKK.out _ _ ⟨keepCell hbx q0,keepCell hbx q1,keepCell hbx v0,keepCell hbx v1,keepCell hbx v2,keepCell hbx v3,keepCell hbx v4⟩ (fun hS3 => ?_)
 clear hKK KK hS2
 refine step_h (i := 14) rfl (by kernel_rfl) ?_
 intro KK hKK
 have hwx := HWK.out.onto hbx
 have hs2 := hb2.size
 have hEl : E.length + 1 ≤ 2000000 := by have := szT_pos T; omega
 refine step_append_lies _ (by rfl) _ _ _ (by rfl) W.heap.size 43 i1 (.agg #[.slice none 0 0,.int .i64 0,.int .i64 0,.string ⟨#[]⟩,.slice none 0 0,.slice none 0 0]) 6 104 Tryz.underlying38 hi' hz0' hz1' hz2' rfl (by decide) _ E.length _ (by rfl) hwx.ps ⟨w2.heap.size,0,none⟩ 1 1 [.slice ou now.length cu,.int .i64 T.kd,.int .i64 T.nm,.string T.st,.slice p1 m1 k1,.slice p2 m2 k2] (by rfl) rfl (new_cells w2 _ 43) (by intro u hu; simp at hu; rcases hu with rfl | rfl | rfl | rfl | rfl | rfl <;> rfl) (by decide) (by unfold maxLen; omega) (by omega) (by have := hwx.bel.size; exact this) (w2.heap.size + 1) (by simp) ?_
 intro g9 cap9 w9 hown9 hgr9 hat9 hlt9
 have hux : OwnS W (w2.alloc (.cells #[.slice ou now.length cu,.int .i64 T.kd,.int .i64 T.nm,.string T.st,.slice p1 m1 k1,.slice p2 m2 k2] 43)) (.slice ou now.length cu) now := own_base (hu2.alloc _) (by have := HWK.out.bel.size; exact this)
 have hun : (Value.slice ou now.length cu).ownBlock = none ∨ (Value.slice ou now.length cu).ownBlock ≠ (Value.slice on now.length cn).ownBlock := by
  cases hv : (Value.slice ou now.length cu).ownBlock with
  | none => exact .inl rfl
  | some k =>
   refine .inr fun hh => ?_
   have h1 := (hu1.lt k hv).1
   have h2 := (HWK.out.ns.lt k hh.symm).2
   have h3 : W0.drew.heap.size = W0.heap.size := rfl
   omega
 have hd := hwx.more ⟨now,T,.slice ou now.length cu,.slice p1 m1 k1,.slice p2 m2 k2⟩ hux hun ⟨HBR.out,fun w' => hv_bare hv2 HBR.out.1 HBR.out.2⟩ hown9 hgr9
 have hbne := off_ne (own_off hwx.ps hwx.box (by decide))
 have hbx9 := (hgr9.block b hwx.lt hbne).trans hwx.box
 have c90 : w9.cell? ⟨b,0,none⟩ = some (.slice on now.length cn) := by rw [cell_of_row w9 b 0 _ _ _ hbx9]; rfl
 have c91 : w9.cell? ⟨b,1,none⟩ = some (.slice op E.length cp) := by rw [cell_of_row w9 b 1 _ _ _ hbx9]; rfl
 have hf9 : w9.frozen? ⟨b,1,none⟩ = false := by simp [World.frozen?,hbx9]
 have kp9 : ∀ (o : Nat) (u : Value),W0.cell? ⟨w.heap.size,o,none⟩ = some u → w9.cell? ⟨w.heap.size,o,none⟩ = some u := fun o u h => by
  rw [World.cell?_of_block (hgr9.block w.heap.size (by have := hbx.size; omega) (fun e => by have := hpl _ e.symm; omega))]
  exact keepCell hbx h
 refine hKK.out _ _ ⟨c90,c91,kp9 _ _ v0,kp9 _ _ v1,kp9 _ _ v2,kp9 _ _ v3,kp9 _ _ v4⟩ (fun hS4 => ?_)
 clear hKK KK hS3
 simp only [Act.put,List.setIfInBounds_toArray,List.set_cons_zero,List.set_cons_succ]
 refine take_h (i := 15) (v := ?_) rfl (by kernel_rfl) (by kernel_rfl) (by kernel_rfl) (fun _ _ _ h => h) (by rfl) ?_ hS4 ?_
 rotate_left
 ·(intro X hX; obtain ⟨hX1,hX2,hX3,hX4,hX5,hX6,hX7⟩ := hX; go_simp; try with_reducible rfl)
 simp only [Act.put,List.setIfInBounds_toArray,List.set_cons_zero,List.set_cons_succ]
 refine take_h (i := 16) (v := ?_) rfl (by kernel_rfl) (by kernel_rfl) (by kernel_rfl) (fun _ _ _ h => h) (by rfl) ?_ hS4 ?_
 rotate_left
 ·(intro X hX; obtain ⟨hX1,hX2,hX3,hX4,hX5,hX6,hX7⟩ := hX; go_simp; try with_reducible rfl)
 simp only [Act.put,List.setIfInBounds_toArray,List.set_cons_zero,List.set_cons_succ]
 refine wpAnyH_done (by kernel_rfl) ?_ _
 change Oper.wp _ _ _ _ _ _
 have HD := hid hd
 clear hd hgr9 hown9 hS4 hwx hux hun hu1 hu2 hbne hbx9 c90 q0 q1 hpl hat9 hlt9 hi' hz0' hz1' hz2' v0 v1 v2 v3 v4 kp9 hbx hb1 hb2 hv2 hf2
 go_simp
 generalize w9.setCell ⟨b,1,none⟩ (.slice (some ⟨g9,0,none⟩) (E.length + 1) cap9) = wA at *
 go_wp2_with fail
 refine bodyPost_end (v := .tuple #[]) (by simp [results,Tryz.results56,go_sem]) rfl ?_
 exact ⟨rfl,_,_,_,HD.out,by rw [HALL.out]; simp [LE.pt]⟩
end Go.Proofs.YteimbjamnfkapaaGreatDoor
