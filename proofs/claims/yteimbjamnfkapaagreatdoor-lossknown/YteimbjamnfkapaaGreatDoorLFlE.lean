import Derived.Test.YteimbjamnfkapaaGreatDoorLFlC
import Derived.Test.YteimbjamnfkapaaGreatDoorLPathEvery
import Derived.Test.YteimbjamnfkapaaGreatDoorLOrders
import Derived.Deep.RegionLawGrows
import Derived.ArgAppend
import Derived.Lib.AppendZerosOnto
import Derived.Lib.AppendZeros
import Derived.Laws.IdiomCopy
import Derived.Lib.Overlaps
import Derived.Deep.Upon
/- slices.Insert of one path among columns, walked: at the end; in a new row; in the row that is there. -/
namespace Go.Proofs.YteimbjamnfkapaaGreatDoor
open Go.RowKit
def putA (A : Array Value) : Nat → List Value → Array Value
 | _,[] => A
 | o,v :: r => putA (A.setIfInBounds o v) (o + 1) r
theorem putA_size : ∀ (vs : List Value) (A : Array Value) (o : Nat),(putA A o vs).size = A.size
 | [],_,_ => rfl
 | v :: r,A,o => by rw [putA,putA_size r]; simp
theorem putA_at : ∀ (vs : List Value) (A : Array Value) (o j : Nat),o + vs.length ≤ A.size → (putA A o vs)[j]? = if o ≤ j ∧ j < o + vs.length then vs[j - o]? else A[j]?
 | [],A,o,j,h => by
  rw [putA,if_neg (by simp only [List.length_nil]; omega)]
 | v :: r,A,o,j,h => by
  rw [putA,putA_at r _ (o + 1) j (by simp only [List.length_cons] at h; simp; omega)]
  simp only [List.length_cons] at h ⊢
  by_cases h1 : o + 1 ≤ j ∧ j < o + 1 + r.length
  ·rw [if_pos h1,if_pos (by omega),show j - o = (j - (o + 1)) + 1 by omega,List.getElem?_cons_succ]
  ·rw [if_neg h1]
   by_cases h2 : j = o
   ·subst h2
    rw [if_pos (by omega),Nat.sub_self,List.getElem?_cons_zero,Array.getElem?_setIfInBounds_self_of_lt (by omega)]
   ·rw [if_neg (by omega),Array.getElem?_setIfInBounds_ne (by omega)]
theorem heap_setCells {b : Nat} {ty : TypeId} {fz : Nat × Nat} : ∀ (vs : List Value) (o : Nat) (w : World) (A : Array Value),w.heap[b]? = some (.cells A ty fz) → (w.setCells b o vs).heap[b]? = some (.cells (putA A o vs) ty fz)
 | [],_,_,_,h => h
 | v :: r,o,w,A,h => by
  rw [World.setCells,putA]
  refine heap_setCells r (o + 1) _ _ ?_
  simp [World.setCell,Array.getElem?_modify,h]
theorem grown_setCells (w : World) (b : Nat) : ∀ (vs : List Value) (o : Nat),w.grownBy (w.setCells b o vs) (some b) := by
 intro vs
 induction vs generalizing w with
 | nil => intro o; exact ⟨rfl,rfl,rfl,Nat.le_refl _,fun _ _ _ => rfl⟩
 | cons v r ih =>
  intro o
  rw [World.setCells]
  have h1 := ih (w.setCell ⟨b,o,none⟩ v) (o + 1)
  have h2 := set_grownW w b o v
  exact ⟨h1.os.trans h2.os,h1.tape.trans h2.tape,h1.output.trans h2.output,Nat.le_trans h2.size h1.size,fun k hk hn => (h1.block k (Nat.lt_of_lt_of_le hk h2.size) hn).trans (h2.block k hk hn)⟩
theorem Tryz.infoPath1 : (Tryz.prog.info? 41).map (fun i => (i.zero,i.size,i.bytes)) = some (some (.slice none 0 0),1,24) := by kernel_rfl
def Ins1 (B n i : Nat) (U : List Value) (u cv : Value) (w : World) (e : Ending) (w' : World) : Prop := ∃ v',e = .returned v' ∧ w'.ownsRow B 41 1 v' (n + 1) (U.take i ++ u :: U.drop i) ∧ w.grownBy w' cv.ownBlock
set_option maxRecDepth 100000 in
set_option maxHeartbeats 2000000 in
theorem cins_end (B n : Nat) (U : List Value) (u cv : Value) (ad : Addr) (w : World) (hO : w.ownsRow B 41 1 cv n U) (hB : B ≤ w.heap.size) (hu : w.cell? ad = some u) (h1 : u.oneCell' = true) (hm : n ≤ 1000000) :
  Calls Tryz.prog 106 #[cv,.int .i64 (n : Int),.slice (some ad) 1 1] w (Ins1 B n n U u cv w) := by
 obtain ⟨i1,hi',hz0',hz1',hz2'⟩ := info_parts Tryz.infoPath1
 obtain ⟨oc,cc,rfl⟩ := own_slice hO
 have hlen : U.length = n := by have := hO.1; omega
 have HT := hid (show U.take n ++ u :: U.drop n = U ++ [u] by rw [List.take_of_length_le (by omega),List.drop_of_length_le (by omega)])
 have HO := hid hO
 have hcc : n ≤ cc := by
  rcases hO.2 with ⟨e,h0⟩ | ⟨g,cap,cur,e,-,-,h3,-⟩
  ·omega
  ·injection e with _ _ e3; omega
 clear hO
 unfold Ins1
 rw [HT.out]
 clear HT
 have hii : ((n : Int) == (n : Int)) = true := by simp
 go_enter Tryz.func106,Tryz.ntmps106
 go_wp2_with (at_builtin; go_must (refine wpList_append_own_at _ rfl (.tmp 23) (.tmp 24) 79 rfl B 41 i1 (.slice none 0 0) 1 24 Tryz.underlying79 hi' hz0' hz1' hz2' rfl (by decide) _ n U (by rfl) HO.out ad 1 1 [u] (by rfl) rfl (by intro j v hv; cases j with | zero => simp at hv; subst hv; simpa [Addr.add] using hu | succ j => simp at hv) (by intro v hv; simp at hv; subst hv; exact h1) (by unfold maxLen; omega) (by omega) hB ?_; intro v9 w9 hown9 hgr9 hnil9 hat9))
 all_goals go_ret
 all_goals first | exact ⟨_,rfl,hown9,hgr9⟩ | exact ⟨_,rfl,hown9,by cases oc <;> exact hgr9⟩
theorem own_put {B g cap n i : Nat} {U : List Value} {u : Value} {A : Array Value} {w : World} (hg : w.heap[g]? = some (.cells A 41 (0,0))) (hB : B ≤ g) (hU : U.length = n) (hi : i ≤ n) (hn : n + 1 ≤ cap) (hc : cap ≤ maxLen) (hA : A.size = cap)
  (h : ∀ j,j < n + 1 → A[j]? = (U.take i ++ u :: U.drop i)[j]?) : w.ownsRow B 41 1 (.slice (some ⟨g,0,none⟩) (n + 1) cap) (n + 1) (U.take i ++ u :: U.drop i) := by
 have hl : (U.take i ++ u :: U.drop i).length = n + 1 := by simp; omega
 refine ⟨by omega,.inr ⟨g,cap,A,rfl,hB,hg,hn,hc,by omega,?_⟩⟩
 apply List.ext_getElem?
 intro j
 rw [List.getElem?_take]
 by_cases hj : j < n + 1
 ·rw [if_pos (by omega),← h j hj]; simp
 ·rw [if_neg (by omega),List.getElem?_eq_none (by omega)]
theorem cins_at (U : List Value) (u : Value) (i j : Nat) (hi : i ≤ U.length) : (U.take i ++ u :: U.drop i)[j]? = if j < i then U[j]? else if j = i then some u else U[j - 1]? := by
 by_cases h : j < i
 ·rw [if_pos h,List.getElem?_append_left (by simp; omega),List.getElem?_take,if_pos h]
 ·rw [if_neg h,List.getElem?_append_right (by simp; omega),List.length_take,Nat.min_eq_left hi]
  by_cases h2 : j = i
  ·subst h2; rw [if_pos rfl,Nat.sub_self]; rfl
  ·rw [if_neg h2,show j - i = (j - i - 1) + 1 by omega,List.getElem?_cons_succ,List.getElem?_drop,show i + (j - i - 1) = j - 1 by omega]
theorem run_copy1 {P : Program} (w : World) (dT sT ty elem : TypeId) (b o dLen dCap : Nat) (a : Addr) (sLen sCap : Nat) (cs : List Value)
  (hu : P.underlying dT = some (.slice elem)) (hs : (P.info? elem).map (·.size) = some 1) (hn : cs.length = Nat.min sLen dLen)
  (hsrc : ∀ j v,cs[j]? = some v → w.cell? (a.add j) = some v) (hc : ∀ j,j < cs.length → (w.cell? ⟨b,o + j,none⟩).isSome = true) (hf : ∀ j,j < cs.length → w.frozen? ⟨b,o + j,none⟩ = false) (h1 : ∀ v ∈ cs,v.oneCell' = true) :
  (Builtin.copy_ #[dT,sT] ty #[.slice (some ⟨b,o,none⟩) dLen dCap,.slice (some a) sLen sCap]).run P w = .ok (goInt (Nat.min sLen dLen)) (w.setCells b o cs) := by
 have hl := run_loadCells_list (P := P) w a cs hsrc
 have hst := run_storeCells_cells (P := P) b o cs 0 w (by simpa using hc) (by simpa using hf) h1
 cases hq : P.info? elem with
 | none => simp [hq] at hs
 | some i =>
  have hi : i.size = 1 := by simpa [hq] using hs
  simp [Builtin.copy_,run_underlying hu,Builtin.lenOf,Builtin.firstCells,sizeOf,typeInfo,hq,hi,← hn,hl,hst]
theorem wp_copy1 {P : Program} (w : World) {o : Oper} {a : Act} {K : Act → World → Prop} {Q : Exit → Act → World → Prop} (d s : Operand) (t t' : TypeId)
  (ho : o.op = .call { callee := .builtin .copy,args := #[d,s],argTypes := #[t,t'] }) (v u : Value) (hd : a.eval d = v) (hs : a.eval s = u) {v' : Value} {w' : World}
  (hr : (Builtin.copy_ #[t,t'] o.type #[v,u]).run P w = .ok v' w') (h : K (a.put o.dst v') w') : o.wp P a w K Q := by
 unfold Oper.wp execOp
 simp only [ho,resolve,invoke,builtin,Sem.run_bind,Sem.run_pure,Result.andThen_ok,List.map_toArray,List.map_cons,List.map_nil,hd,hs,hr]
 exact h
end Go.Proofs.YteimbjamnfkapaaGreatDoor
/- slices.Insert of one path ahead of others, walked: in a new row; in the row that is there. -/
namespace Go.Proofs.YteimbjamnfkapaaGreatDoor
open Go.RowKit
theorem cap_fits24 (n : Nat) (h : n ≤ 1000000) : Builtin.nextslicecap (n + 1) n * 24 ≤ 281474976710656 := by
 unfold Builtin.nextslicecap
 split
 ·omega
 ·split
  ·omega
  ·have : Builtin.growBy (n + 1) 4 n ≤ 4000000 := by
    simp only [Builtin.growBy]
    repeat' split
    all_goals omega
   omega
theorem zeros_one (n : Nat) : (Builtin.zeroCells (Value.slice none 0 0).cells n).size = n := by simp [Builtin.zeroCells,Value.cells]
set_option maxRecDepth 100000 in
set_option maxHeartbeats 2000000 in
theorem cins_grow (B n i g : Nat) (U : List Value) (u : Value) (ad : Addr) (w : World) (hi : i < n) (hO : w.ownsRow B 41 1 (.slice (some ⟨g,0,none⟩) n n) n U) (hB : B ≤ w.heap.size) (hu : w.cell? ad = some u) (h1 : u.oneCell' = true) (hone : ∀ v ∈ U,v.oneCell' = true) (hm : n ≤ 1000000) :
  Calls Tryz.prog 106 #[.slice (some ⟨g,0,none⟩) n n,.int .i64 (i : Int),.slice (some ad) 1 1] w (Ins1 B n i U u (.slice (some ⟨g,0,none⟩) n n) w) := by
 obtain ⟨i1,hi',hz0',hz1',hz2'⟩ := info_parts Tryz.infoPath1
 have hsz : (Tryz.prog.info? 41).map (·.size) = some 1 := by rw [hi']; simp [hz1']
 have hlen : U.length = n := by have := hO.1; omega
 have hcell : ∀ j v,U[j]? = some v → w.cell? ⟨g,j,none⟩ = some v := fun j v hv => by
  rw [hO.cellAt j (by have := lt_of_some hv; omega)]; exact hv
 have hglt : g < w.heap.size := (hO.lt g rfl).2
 obtain ⟨C,hC⟩ : ∃ C,C = grownCap w (n + 1) n 41 := ⟨_,rfl⟩
 have hC1 : n + 1 ≤ C := by rw [hC]; exact grownCap_ge _ _ _ _
 have hC2 : C ≤ maxLen := by rw [hC]; exact grownCap_le_maxLen _ _ _ _ (by unfold maxLen; omega)
 obtain ⟨R,hR⟩ : ∃ R : Array Value,R = (U.take i).toArray ++ Builtin.zeroCells (Value.slice none 0 0).cells (n + 1 - i) ++ Builtin.zeroCells (Value.slice none 0 0).cells (C - (n + 1)) := ⟨_,rfl⟩
 have hRs : R.size = C := by
  rw [hR,Array.size_append,Array.size_append,zeros_one,zeros_one]
  show (U.take i).length + (n + 1 - i) + (C - (n + 1)) = C
  rw [List.length_take]; omega
 obtain ⟨W1,hW1⟩ : ∃ W1,W1 = w.drew.alloc (.cells R 41) := ⟨_,rfl⟩
 have hb1 : Below w.heap.size w W1 := by rw [hW1]; exact valloc_bel (Below.refl _ _).drew _
 have hheap : W1.heap[w.heap.size]? = some (.cells R 41 (0,0)) := by rw [hW1]; show (w.drew.alloc _).heap[w.drew.heap.size]? = _; simp only [World.alloc,Array.getElem?_push_size]
 have hsome : ∀ j,j < C → (W1.cell? ⟨w.heap.size,j,none⟩).isSome = true := fun j hj => by
  rw [cell_of_row W1 w.heap.size j R _ _ hheap,Array.getElem?_eq_getElem (by omega)]; rfl
 have hfz : ∀ j,W1.frozen? ⟨w.heap.size,j,none⟩ = false := fun j => by simp [World.frozen?,hheap]
 have hr : ∀ ty,(Builtin.append_ #[79,3] ty #[.slice (some ⟨g,0,none⟩) i n,.int .i64 ((n + 1 - i : Nat) : Int)]).run Tryz.prog w = .ok (.slice (some ⟨w.heap.size,0,none⟩) (n + 1) C) W1 := fun ty => by
  have := Lib.run_append_grow_zeros (P := Tryz.prog) w 79 3 ty 41 i1 _ .i64 .i64 Tryz.underlying79 Tryz.underlying3 hi' hz0' (some ⟨g,0,none⟩) i n (U.take i) (run_firstCells_some _ _ _ _ _ _ _ (by rw [List.length_take,hz1']; omega) (fun j v hv => by
   rw [add_at]
   refine hcell j v ?_
   rw [List.getElem?_take] at hv
   split at hv
   ·exact hv
   ·cases hv)) (n + 1 - i) (by omega) (by rw [hz1']; decide) (by omega) (by omega) (by rw [hz2']; omega) (by rw [hz2',show i + (n + 1 - i) = n + 1 by omega]; exact cap_fits24 n hm)
  rw [show i + (n + 1 - i) = n + 1 by omega,← hC,← hR,← hW1] at this
  exact this
 have hcp : ∀ ty c,(Builtin.copy_ #[79,79] ty #[.slice (some ⟨w.heap.size,i,none⟩) (n + 1 - i) c,.slice (some ad) 1 1]).run Tryz.prog W1 = .ok (goInt 1) (W1.setCells w.heap.size i [u]) := fun ty c => by
  have hmin : Nat.min 1 (n + 1 - i) = 1 := Nat.min_eq_left (by omega)
  have := run_copy1 (P := Tryz.prog) W1 79 79 ty 41 w.heap.size i (n + 1 - i) c ad 1 1 [u] Tryz.underlying79 hsz (by rw [hmin]; rfl) (fun j v hv => by
   cases j with
   | zero => simp at hv; subst hv; simpa [Addr.add] using keepCell hb1 hu
   | succ j => simp at hv) (fun j hj => hsome _ (by simp at hj; omega)) (fun j _ => hfz _) (by intro v hv; simp at hv; subst hv; exact h1)
  rw [hmin] at this
  exact this
 have HCP := hid hcp
 have hcp2 : ∀ ty c,(Builtin.copy_ #[79,79] ty #[.slice (some ⟨w.heap.size,i + 1,none⟩) (n - i) c,.slice (some ⟨g,i,none⟩) (n - i) (n - i)]).run Tryz.prog (W1.setCells w.heap.size i [u]).drew = .ok (goInt ((n - i : Nat) : Int)) ((W1.setCells w.heap.size i [u]).drew.setCells w.heap.size (i + 1) (U.drop i)) := fun ty c => by
  have hmin : Nat.min (n - i) (n - i) = n - i := Nat.min_self _
  have := run_copy1 (P := Tryz.prog) (W1.setCells w.heap.size i [u]).drew 79 79 ty 41 w.heap.size (i + 1) (n - i) c ⟨g,i,none⟩ (n - i) (n - i) (U.drop i) Tryz.underlying79 hsz (by rw [hmin,List.length_drop,hlen]) (fun j v hv => by
   rw [List.getElem?_drop] at hv
   rw [add_off]
   show (W1.setCells w.heap.size i [u]).cell? ⟨g,i + j,none⟩ = some v
   rw [World.cell?_setCells_out _ _ _ _ _ (fun e => by have e' : g = w.heap.size := e; omega)]
   exact keepCell hb1 (hcell _ _ hv)) (fun j hj => by
    rw [List.length_drop,hlen] at hj
    show ((W1.setCells w.heap.size i [u]).cell? _).isSome = true
    exact World.isSome_setCells _ _ _ _ _ (hsome _ (by omega))) (fun j _ => by
    show (W1.setCells w.heap.size i [u]).frozen? _ = false
    rw [World.frozen?_setCells]; exact hfz _) (fun v hv => hone v (List.mem_of_mem_drop hv))
  rw [hmin] at this
  exact this
 have HCP2 := hid hcp2
 obtain ⟨W2,hW2⟩ : ∃ W2,W2 = W1.setCells w.heap.size i [u] := ⟨_,rfl⟩
 have H20 := hid hW2
 have e1 : ((n : Int) + 1 - (i : Int)) = ((n + 1 - i : Nat) : Int) := by omega
 have ne1 : ((i : Int) == (n : Int)) = false := by simp; omega
 have HR := hid hr
 have H3 := hid hB; have H6 := hid hlen; have H7 := hid hb1; have H8 := hid hheap; have H11 := hid hRs; have H12 := hid hR
 clear hcp hcp2 hW2 hr hone hu h1 hb1 hheap hsome hfz hRs hR hW1 hC hi' hz0' hz1' hz2' hO hcell hB hlen
 go_enter Tryz.func106,Tryz.ntmps106
 go_wp2_with (at_builtin; go_must (refine Lib.wpList_append_run _ rfl (.tmp 34) (.tmp 39) 79 3 rfl (.slice (some ⟨g,0,none⟩) i n) (.int .i64 ((n + 1 - i : Nat) : Int)) (by rfl) (by simp [Act.eval]) _ _ (HR.out _) ?_))
 rw [HCP.out,← H20.out]
 rw [← H20.out] at HCP2
 go_wp2_with fail
 refine wp_region_ends2 (S := fun _ => True) (by simp) (by kernel_rfl) (by kernel_rfl) (by kernel_rfl) (by kernel_rfl) (by kernel_rfl) (by kernel_rfl) ?_
 simp only [List.dropLast,List.getLast_cons_cons,List.getLast_singleton,List.length_cons,List.length_nil]
 refine take_h (i := 0) (v := .slice (some ⟨w.heap.size,0,none⟩) (n + 1) C) rfl (by kernel_rfl) (by kernel_rfl) (by kernel_rfl) (fun _ _ _ h => h) (by rfl) ?_ trivial ?_
 ·(intro X hX; go_simp)
 simp only [Act.put,List.setIfInBounds_toArray,List.set_cons_zero,List.set_cons_succ]
 refine take_h (i := 1) (v := .int .i64 (i : Int)) rfl (by kernel_rfl) (by kernel_rfl) (by kernel_rfl) (fun _ _ _ h => h) (by rfl) ?_ trivial ?_
 ·(intro X hX; go_simp)
 simp only [Act.put,List.setIfInBounds_toArray,List.set_cons_zero,List.set_cons_succ]
 refine take_h (i := 2) (v := .int .i64 1) rfl (by kernel_rfl) (by kernel_rfl) (by kernel_rfl) (fun _ _ _ h => h) (by rfl) ?_ trivial ?_
 ·(intro X hX; go_simp)
 simp only [Act.put,List.setIfInBounds_toArray,List.set_cons_zero,List.set_cons_succ]
 refine take_h (i := 3) (v := .int .i64 ((i : Int) + 1)) rfl (by kernel_rfl) (by kernel_rfl) (by kernel_rfl) (fun _ _ _ h => h) (by rfl) ?_ trivial ?_
 ·(intro X hX; go_simp; rw [IntKind.wrap_i64]; omega)
 simp only [Act.put,List.setIfInBounds_toArray,List.set_cons_zero,List.set_cons_succ]
 refine take_h (i := 4) (v := .slice (some ⟨w.heap.size,i + 1,none⟩) (n - i) (C - (i + 1))) rfl (by kernel_rfl) (by kernel_rfl) (by kernel_rfl) (fun _ _ _ h => h) (by rfl) ?_ trivial ?_
 ·(intro X hX; go_simp; rw [if_pos ⟨by omega,by omega⟩,if_neg (by omega)])
 simp only [Act.put,List.setIfInBounds_toArray,List.set_cons_zero,List.set_cons_succ]
 refine take_h (i := 5) (v := .slice (some ⟨g,0,none⟩) n n) rfl (by kernel_rfl) (by kernel_rfl) (by kernel_rfl) (fun _ _ _ h => h) (by rfl) ?_ trivial ?_
 ·(intro X hX; go_simp)
 simp only [Act.put,List.setIfInBounds_toArray,List.set_cons_zero,List.set_cons_succ]
 refine take_h (i := 6) (v := .int .i64 (i : Int)) rfl (by kernel_rfl) (by kernel_rfl) (by kernel_rfl) (fun _ _ _ h => h) (by rfl) ?_ trivial ?_
 ·(intro X hX; go_simp)
 simp only [Act.put,List.setIfInBounds_toArray,List.set_cons_zero,List.set_cons_succ]
 refine take_h (i := 7) (v := .slice (some ⟨g,i,none⟩) (n - i) (n - i)) rfl (by kernel_rfl) (by kernel_rfl) (by kernel_rfl) (fun _ _ _ h => h) (by rfl) ?_ trivial ?_
 ·(intro X hX; go_simp; rw [if_pos (by omega),if_neg (by omega)])
 simp only [Act.put,List.setIfInBounds_toArray,List.set_cons_zero,List.set_cons_succ]
 refine wpAnyH_done (by kernel_rfl) ?_ _
 change Oper.wp _ _ _ _ _ _
 refine wp_copy1 _ (.tmp 50) (.tmp 53) 79 79 rfl _ _ (by rfl) (by rfl) (HCP2.out _ _) ?_
 go_wp2_with fail
 go_ret
 have hlt : w.heap.size < W1.heap.size := (Array.getElem?_eq_some_iff.1 H8.out).1
 have hlen := H6.out
 have hp : (W2.drew.setCells w.heap.size (i + 1) (U.drop i)).heap[w.heap.size]? = some (.cells (putA (putA R i [u]) (i + 1) (U.drop i)) 41 (0,0)) := heap_setCells _ _ _ _ (by show W2.heap[w.heap.size]? = _; rw [H20.out]; exact heap_setCells _ _ _ _ H8.out)
 have hRs := H11.out
 have hgr : w.grownBy (W2.drew.setCells w.heap.size (i + 1) (U.drop i)) (Value.slice (some ⟨g,0,none⟩) n n).ownBlock := by
  have g1 := grown_setCells W1 w.heap.size [u] i
  have g2 := grown_setCells W2.drew w.heap.size (U.drop i) (i + 1)
  rw [← H20.out] at g1
  have b1 := H7.out
  refine ⟨?_,?_,?_,?_,fun k hk hn => ?_⟩
  ·rw [g2.os]; show W2.os = _; rw [g1.os]; exact b1.os
  ·rw [g2.tape]; show W2.tape = _; rw [g1.tape]; exact b1.tape
  ·rw [g2.output]; show W2.output = _; rw [g1.output]; exact b1.output
  ·have := g2.size; have h2 : W2.drew.heap.size = W2.heap.size := rfl; have := g1.size; have := b1.size; omega
  ·have h2 : W2.drew.heap.size = W2.heap.size := rfl
   have h3 := g1.size
   have h4 := b1.size
   rw [g2.block k (by omega) (by simp; omega)]
   show W2.heap[k]? = _
   rw [g1.block k (by omega) (by simp; omega),b1.block k hk]
 refine ⟨_,rfl,own_put hp H3.out hlen (by omega) hC1 hC2 (by rw [putA_size,putA_size]; exact hRs) (fun j hj => ?_),hgr⟩
 rw [cins_at U u i j (by omega),putA_at _ _ _ _ (by rw [putA_size,hRs,List.length_drop]; omega),putA_at _ _ _ _ (by rw [hRs,List.length_singleton]; omega),List.length_drop,List.length_singleton]
 by_cases h1 : j < i
 ·rw [if_neg (by omega),if_neg (by omega),if_pos h1,H12.out,Array.getElem?_append_left (by simp; omega),Array.getElem?_append_left (by simp; omega)]
  simp [h1]
 ·rw [if_neg h1]
  by_cases h2 : j = i
  ·subst h2; rw [if_neg (by omega),if_pos (by omega),if_pos rfl,Nat.sub_self]; rfl
  ·rw [if_pos (by omega),if_neg h2,List.getElem?_drop,show i + (j - (i + 1)) = j - 1 by omega]
end Go.Proofs.YteimbjamnfkapaaGreatDoor
