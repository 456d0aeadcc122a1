/- Texts: empty or not, cut, the first of them. -/
import Derived.Test.YteimbjamnfkapaaGreatDoorLVBase
import Derived.Test.YteimbjamnfkapaaGreatDoorLMathDecAll
import Derived.Lib.Strings
import Derived.Deep.QuietTactic
import Derived.BigQuiet
import Derived.StillTail
import Derived.OrdersHeld
import Derived.Deep.RegionHeld
namespace Go.Proofs.YteimbjamnfkapaaGreatDoor
open Go.RowKit
theorem emp_yes (d : ByteArray) (h : d.data.toList = []) : d.toList.isEmpty = true := by rw [Lib.toList_data,h]; rfl
theorem emp_no (d : ByteArray) (h : ¬ d.data.toList = []) : d.toList.isEmpty = false := by
 rw [Lib.toList_data]; cases hd : d.data.toList with
 | nil => exact absurd hd h
 | cons => rfl
theorem emp_size (d : ByteArray) (h : ¬ d.data.toList = []) : 0 < d.size := by
 have := size_list d
 cases hd : d.data.toList with
 | nil => exact absurd hd h
 | cons a l => rw [hd] at this; simp at this; omega
theorem cut_list (s : ByteArray) (n : Nat) : (s.extract 0 n).data.toList = s.data.toList.take n := by simp
end Go.Proofs.YteimbjamnfkapaaGreatDoor
/- A region that draws its order and whose callees make memory but change none that was there: one walk serves every order, in the class of the worlds above. -/
/- A region that draws its order and whose last operation waits for all others: the others in whatever order, then the last. -/
/- A region that draws its order, of which a beginning has but one order. -/
/- A region that draws its order and is quiet from a point on: the check of its order over the list alone. -/
namespace Go.Proofs.YteimbjamnfkapaaGreatDoor
open Go.RowKit
structure Abv (w : World) where
 u : World
 h : Below w.heap.size w u
theorem abv_some (w : World) : Nonempty (Abv w) := ⟨⟨w,Below.refl _ _⟩⟩
theorem wp_region_above {P : Program} {id : Nat} {Q : Exit → Act → World → Prop} {a : Act} {w : World} {l : List Oper} (hm : P.follows .mixedOrders = true) (hB : Region.lexB .any l.toArray = true)
  (h : wpQuiet P l.toArray (fun w' => ∃ x : Abv w,w' = x.u) (fun a' => ∀ w',(∃ x : Abv w,w' = x.u) → Q .normal a' w') l a) : (Code.region id l.toArray true).wp P Q a w :=
 wp_region_quiet (C := fun w' => ∃ x : Abv w,w' = x.u) hm hB ⟨⟨w.drew,(Below.refl _ _).drew⟩,rfl⟩ (by simpa using h)
theorem above_of {P : Program} {f : FuncId} {args : Array Value} {w : World} {x : Abv w} {v : Value}
  (h : Calls P f args x.u fun e w' => e = .returned v ∧ Below x.u.heap.size x.u w') : Calls P f args x.u fun e w'' => e = .returned v ∧ ∃ y : Abv w,w'' = y.u :=
 h.mono fun _ w' ⟨he,hb⟩ => ⟨he,⟨w',x.h.trans (hb.mono x.h.size)⟩,rfl⟩
theorem above_cell {w : World} {a : Addr} {v : Value} (h : w.cell? a = some v) (x : Abv w) : x.u.cell? a = some v := by
 rw [x.h.cell (World.block_lt_of_cell? w a h)]; exact h
end Go.Proofs.YteimbjamnfkapaaGreatDoor
namespace Go.Proofs.YteimbjamnfkapaaGreatDoor
open Go.RowKit
section
variable {P : Program} {Q : Exit → Act → World → Prop} {md : Region.Mode}
def lastQ (P : Program) (o : Oper) (Q : Exit → Act → World → Prop) : Exit → Act → World → Prop
 | .normal,a,w => o.wp P a w (Q .normal) Q
 | .panic c,a,w => Q (.panic c) a w
 | .outgrown,a,w => Q .outgrown a w
 | .exit i,a,w => Q (.exit i) a w
 | .goto i,a,w => Q (.goto i) a w
 | .ret,a,w => Q .ret a w
theorem upon_last {o x : Oper} {a : Act} {K : Act → World → Prop} (r : Result Next) (h : x.upon P a K (lastQ P o Q) r) : x.upon P a K Q r := by
 cases r with
 | ok n w => cases n <;> exact h
 | halt y w => cases y <;> exact h
theorem wp_last {o x : Oper} {a : Act} {w : World} {K : Act → World → Prop} (h : x.wp P a w K (lastQ P o Q)) : x.wp P a w K Q := upon_last _ h
structure Both (n : Nat) (listed listedF : Array Bool) : Prop where
 s1 : listed.size = n
 s2 : listedF.size = n + 1
 at_ : ∀ j,j < n → listedF[j]? = listed[j]?
 last : listedF[n]? = some false
theorem Both.get {n : Nat} {listed listedF : Array Bool} (h : Both n listed listedF) {j : Nat} (hj : j < n) (d : Bool) : listedF.getD j d = listed.getD j d := by
 rw [Array.getD_eq_getD_getElem?,Array.getD_eq_getD_getElem?,h.at_ j hj]
theorem Both.set {n : Nat} {listed listedF : Array Bool} (h : Both n listed listedF) {i : Nat} (hi : i < n) : Both n (listed.setIfInBounds i true) (listedF.setIfInBounds i true) := by
 refine ⟨by simpa using h.s1,by simpa using h.s2,fun j hj => ?_,?_⟩
 ·rw [Array.getElem?_setIfInBounds,Array.getElem?_setIfInBounds,h.at_ j hj]
  by_cases e : i = j
  ·rw [if_pos e,if_pos e,if_pos (by rw [h.s2]; omega),if_pos (by rw [h.s1]; omega)]
  ·rw [if_neg e,if_neg e]
 ·rw [Array.getElem?_setIfInBounds,if_neg (by omega)]; exact h.last
theorem both_ready {l : List Oper} {o : Oper} {listed listedF : Array Bool} (hB : Both l.length listed listedF) (he : ∀ x ∈ l,∀ e ∈ x.after,Region.binds md e = true → e.on < l.length) {j : Nat} (hj : j < l.length) :
  j ∈ Region.ready md (l ++ [o]).toArray listedF ↔ j ∈ Region.ready md l.toArray listed := by
 rw [mem_ready,mem_ready,hB.get hj]
 have e1 : (l ++ [o]).toArray[j]? = l.toArray[j]? := by
  rw [List.getElem?_toArray,List.getElem?_toArray,List.getElem?_append_left hj]
 rw [e1]
 constructor
 ·rintro ⟨h0,x,hx,hall⟩
  refine ⟨h0,x,hx,fun e hm hb => ?_⟩
  rw [← hB.get (he x (List.mem_of_getElem? (by rwa [List.getElem?_toArray] at hx)) e hm hb)]
  exact hall e hm hb
 ·rintro ⟨h0,x,hx,hall⟩
  refine ⟨h0,x,hx,fun e hm hb => ?_⟩
  rw [hB.get (he x (List.mem_of_getElem? (by rwa [List.getElem?_toArray] at hx)) e hm hb)]
  exact hall e hm hb
theorem step_last {l : List Oper} {o : Oper} {i : Nat} {K K' : Act → World → Prop} {a : Act} {w : World} (hi : i < l.length) (hg : ∀ x ∈ l,x.guard = none) (hK : ∀ a w,K a w → K' a w) (h : wpOp P l.toArray (lastQ P o Q) i K a w) : wpOp P (l ++ [o]).toArray Q i K' a w := by
 have h1 : l.toArray[i]? = some l[i] := by rw [List.getElem?_toArray]; exact List.getElem?_eq_getElem hi
 have h2 : (l ++ [o]).toArray[i]? = some l[i] := by rw [List.getElem?_toArray,List.getElem?_append_left hi]; exact List.getElem?_eq_getElem hi
 have hw : ∀ y,Region.wanted l[i] y = true := fun y => by simp [Region.wanted,hg _ (List.getElem_mem hi)]
 unfold wpOp at h ⊢
 simp only [h1] at h
 simp only [h2]
 rw [if_pos (hw _)] at h ⊢
 rcases h with h | ⟨h,a',w',h'⟩
 ·exact Or.inl (Oper.wp_mono hK (wp_last h))
 ·exact Or.inr ⟨h,a',w',h'⟩
theorem any_last {l : List Oper} {o : Oper} (hg : ∀ x ∈ l,x.guard = none) (hgo : o.guard = none) (he : ∀ x ∈ l,∀ e ∈ x.after,Region.binds md e = true → e.on < l.length) (ho : ∀ e ∈ o.after,Region.binds md e = true → e.on < l.length)
  (hs : Region.sinkB md (l ++ [o]).toArray l.length = true) (hc : Region.chainB md (l ++ [o]).toArray l.length = true) (hall : ∀ listed : Array Bool,listed.size = l.length → Region.ready md l.toArray listed = [] → ∀ j,j < l.length → listed.getD j false = true) :
  ∀ (fuel : Nat) (listed listedF : Array Bool) (a : Act) (w : World),Both l.length listed listedF → HeadInv md (l ++ [o]).toArray l.length listedF →
   wpAny P md l.toArray (lastQ P o Q) fuel listed a w → wpAny P md (l ++ [o]).toArray Q (fuel + 1) listedF a w := by
 have hsz : l.length < (l ++ [o]).toArray.size := by simp
 have hol : (l ++ [o]).toArray[l.length]? = some o := by rw [List.getElem?_toArray,List.getElem?_append_right (Nat.le_refl _)]; simp
 -- once the others have come up: the last,and no more
 have fin : ∀ (g : Nat) (listed listedF : Array Bool) (a : Act) (w : World),Both l.length listed listedF → Region.ready md l.toArray listed = [] → o.wp P a w (Q .normal) Q →
   wpAny P md (l ++ [o]).toArray Q (g + 1) listedF a w := by
  intro g listed listedF a w hB hr hw
  have hin : l.length ∈ Region.ready md (l ++ [o]).toArray listedF := by
   refine mem_ready.2 ⟨by simp [hB.last],o,hol,fun e hm hb => ?_⟩
   rw [hB.get (ho e hm hb)]
   exact hall listed hB.s1 hr _ (ho e hm hb)
  refine ⟨fun h => (by rw [h] at hin; cases hin),fun i hi => ?_⟩
  have hil : i = l.length := by
   obtain ⟨h0,x,hx,-⟩ := mem_ready.1 hi
   have hlt : i < l.length + 1 := by have := (Array.getElem?_eq_some_iff.1 hx).1; simpa using this
   rcases Nat.lt_or_ge i l.length with h | h
   ·have := (both_ready hB he h).1 hi
    rw [hr] at this; cases this
   ·omega
  subst hil
  have hr2 : Region.ready md (l ++ [o]).toArray (listedF.setIfInBounds l.length true) = [] := by
   apply List.eq_nil_iff_forall_not_mem.2
   intro j hj
   obtain ⟨h0,x,hx,hal⟩ := mem_ready.1 hj
   have hlt : j < l.length + 1 := by have := (Array.getElem?_eq_some_iff.1 hx).1; simpa using this
   rcases Nat.lt_or_ge j l.length with h | h
   ·rw [getD_set_ne true (by omega),hB.get h] at h0
    have := hall listed hB.s1 hr j h
    simp [Array.getD_eq_getD_getElem?] at h0 this
    cases hh : listed[j]? <;> simp [hh] at h0 this
    rw [h0] at this; cases this
   ·have : j = l.length := by omega
    subst this
    simp [hB.s2] at h0
  unfold wpOp
  simp only [hol]
  rw [if_pos (by simp [Region.wanted,hgo])]
  refine Or.inl (Oper.wp_mono (fun a' w' hq => ?_) hw)
  cases g with
  | zero => exact ⟨hr2,hq⟩
  | succ g => exact ⟨fun _ => hq,by rw [hr2]; simp⟩
 intro fuel
 induction fuel with
 | zero => intro listed listedF a w hB _ h; exact fin 0 listed listedF a w hB h.1 h.2
 | succ fuel ih =>
  intro listed listedF a w hB hI h
  by_cases hr : Region.ready md l.toArray listed = []
  ·exact fin (fuel + 1) listed listedF a w hB hr (h.1 hr)
  ·obtain ⟨i0,hi0⟩ := List.exists_mem_of_ne_nil _ hr
   have hi0l : i0 < l.length := by obtain ⟨-,x,hx,-⟩ := mem_ready.1 hi0; have := (Array.getElem?_eq_some_iff.1 hx).1; simpa using this
   have hin := (both_ready (o := o) hB he hi0l).2 hi0
   refine ⟨fun h' => (by rw [h'] at hin; cases hin),fun i hi => ?_⟩
   have hil : i < l.length := by
    rcases Nat.lt_or_ge i l.length with h' | h'
    ·exact h'
    ·exact absurd hi (tail_waits hs hc hsz hI _ i0 rfl hi0l (mem_ready.1 hin).1 i h')
   have hil2 := (both_ready hB he hil).1 hi
   exact step_last hil hg (fun a' w' h' => ih _ _ a' w' (hB.set hil) (hI.set hi hil) h') (h.2 i hil2)
theorem wp_region_ends {id : Nat} {a : Act} {w : World} {l : List Oper} {o : Oper} {S : World → Prop} (hm : P.follows .mixedOrders = true) (hg : l.all (fun x => x.guard.isNone) = true) (hgo : o.guard = none)
  (he : l.all (fun x => x.after.all fun e => decide (e.on < l.length)) = true) (ho : o.after.all (fun e => decide (e.on < l.length)) = true) (hs : Region.sinkB .any (l ++ [o]).toArray l.length = true) (hc : Region.chainB .any (l ++ [o]).toArray l.length = true)
  (hord : (List.range l.length).all (fun j => match l[j]? with | some x => x.after.all (fun e => decide (e.on < j)) | none => true) = true)
  (h : wpAnyH P .any l.toArray (lastQ P o Q) S l.length (Array.replicate l.length false) a w.drew) : (Code.region id (l ++ [o]).toArray true).wp P Q a w := by
 have hall : ∀ listed : Array Bool,listed.size = l.length → Region.ready .any l.toArray listed = [] → ∀ j,j < l.length → listed.getD j false = true := by
  intro listed hz hr j
  induction j using Nat.strongRecOn with
  | _ j ih =>
   intro hj
   cases hd : listed.getD j false with
   | true => rfl
   | false =>
    exfalso
    have hx : l.toArray[j]? = some l[j] := by rw [List.getElem?_toArray]; exact List.getElem?_eq_getElem hj
    have : j ∈ Region.ready .any l.toArray listed := by
     refine mem_ready.2 ⟨getD_in (by omega) hd,l[j],hx,fun e hm hb => ?_⟩
     have := List.all_eq_true.1 hord j (List.mem_range.2 hj)
     rw [List.getElem?_eq_getElem hj] at this
     have h2 := of_decide_eq_true (Array.all_eq_true'.1 this e hm)
     exact ih e.on h2 (by omega)
    rw [hr] at this; cases this
 refine wp_region_any hm ?_
 have hany := any_last (P := P) (Q := Q) (md := .any) (l := l) (o := o) (fun x hx => by have := List.all_eq_true.1 hg x hx; simpa using this) hgo
  (fun x hx e hm _ => of_decide_eq_true (Array.all_eq_true'.1 (List.all_eq_true.1 he x hx) e hm)) (fun e hm _ => of_decide_eq_true (Array.all_eq_true'.1 ho e hm)) hs hc hall
  l.length (Array.replicate l.length false) (Array.replicate (l.length + 1) false) a w.drew
  ⟨by simp,by simp,fun j hj => by rw [Array.getElem?_replicate,Array.getElem?_replicate,if_pos hj,if_pos (by omega)],by rw [Array.getElem?_replicate,if_pos (by omega)]⟩
  ⟨by simp,fun j oj _ hl => (by rw [getD_replicate_false] at hl; cases hl),fun t _ ht => (by rw [Array.getD_eq_getD_getElem?,Array.getElem?_replicate,if_pos (by simpa using ht)]; rfl)⟩ (wpAny_of_held _ _ _ _ h)
 simpa using hany
theorem wp_region_ends2 {id : Nat} {a : Act} {w : World} {ops : List Oper} {S : World → Prop} (hne : ops ≠ []) (hm : P.follows .mixedOrders = true) (hg : ops.all (fun x => x.guard.isNone) = true)
  (he : ops.all (fun x => x.after.all fun e => decide (e.on + 1 < ops.length)) = true) (hs : Region.sinkB .any ops.toArray (ops.length - 1) = true) (hc : Region.chainB .any ops.toArray (ops.length - 1) = true)
  (hord : (List.range (ops.length - 1)).all (fun j => match ops[j]? with | some x => x.after.all (fun e => decide (e.on < j)) | none => true) = true)
  (h : wpAnyH P .any ops.dropLast.toArray (lastQ P (ops.getLast hne) Q) S (ops.length - 1) (Array.replicate (ops.length - 1) false) a w.drew) : (Code.region id ops.toArray true).wp P Q a w := by
 have hops : ops.dropLast ++ [ops.getLast hne] = ops := List.dropLast_concat_getLast hne
 have hlen : ops.dropLast.length = ops.length - 1 := List.length_dropLast
 have hpos : 0 < ops.length := List.length_pos_iff.2 hne
 have := wp_region_ends (P := P) (Q := Q) (id := id) (a := a) (w := w) (l := ops.dropLast) (o := ops.getLast hne) (S := S) hm
  (List.all_eq_true.2 fun x hx => List.all_eq_true.1 hg x (List.dropLast_subset _ hx)) (by have := List.all_eq_true.1 hg _ (List.getLast_mem hne); simpa using this)
  (List.all_eq_true.2 fun x hx => by
   have h1 := List.all_eq_true.1 he x (List.dropLast_subset _ hx)
   rw [Array.all_eq_true'] at h1 ⊢
   intro e hm'
   have := of_decide_eq_true (h1 e hm')
   exact decide_eq_true (by omega))
  (by
   have h1 := List.all_eq_true.1 he _ (List.getLast_mem hne)
   rw [Array.all_eq_true'] at h1 ⊢
   intro e hm'
   have := of_decide_eq_true (h1 e hm')
   exact decide_eq_true (by omega))
  (by rw [hops,hlen]; exact hs) (by rw [hops,hlen]; exact hc)
  (by
   rw [hlen,List.all_eq_true]
   intro j hj
   have h1 := List.all_eq_true.1 hord j hj
   have hjl := List.mem_range.1 hj
   rw [show ops.dropLast[j]? = ops[j]? by rw [List.getElem?_dropLast,if_pos (by omega)]]
   exact h1)
  (by rw [hlen]; exact h)
 rw [hops] at this
 exact this
theorem take_h {i : Nat} {oi : Oper} {v : Value} {fuel : Nat} {listed : Array Bool} {a : Act} {w : World} {l : List Oper} {S : World → Prop} (hi : l[i]? = some oi)
  (hs : Region.noSelect l.toArray = true) (hf : Region.free md l.toArray listed i = true) (hr : (Region.ready md l.toArray listed).contains i = true)
  (hQ : ∀ c a w,Q (.panic c) (a.put oi.dst v) w → Q (.panic c) a w) (hw : Region.wanted oi (yielded l.toArray a.tmps) = true) (hy : ∀ X,S X → (execOp a.eval oi).run P X = .ok (.value v) X) (hS : S w)
  (h : wpAnyH P md l.toArray Q S fuel (listed.setIfInBounds i true) (a.put oi.dst v) w) : wpAnyH P md l.toArray Q S (fuel + 1) listed a w :=
 wpAnyH_take (by rw [List.getElem?_toArray]; exact hi) hs hf hr hQ (Or.inl ⟨hw,hy⟩) hS h
theorem step_h {i : Nat} {oi : Oper} {fuel : Nat} {listed : Array Bool} {a : Act} {w : World} {l : List Oper} {S : World → Prop} (hi : l[i]? = some oi) (hr : Region.ready md l.toArray listed = [i])
  (h : ∀ K : Act → World → Prop,Shut (∀ a w,S w → (S w → wpAnyH P md l.toArray Q S fuel (listed.setIfInBounds i true) a w) → K a w) → if Region.wanted oi (yielded l.toArray a.tmps) = true then Oper.wp P oi a w K Q else K (a.put oi.dst undef) w) : wpAnyH P md l.toArray Q S (fuel + 1) listed a w :=
 wpAnyH_ready hr (by simp) (AllReadyH.cons (by rw [List.getElem?_toArray]; exact hi) h AllReadyH.nil)
end
end Go.Proofs.YteimbjamnfkapaaGreatDoor
namespace Go.Proofs.YteimbjamnfkapaaGreatDoor
open Go.RowKit
section
variable {P : Program} {md : Region.Mode} {C : World → Prop}
def rowOk (md : Region.Mode) (n k : Nat) (o : Oper) : Bool :=
 if k < n then o.after.all (fun e => !Region.binds md e || decide (e.on < k)) && (decide (k = 0) || o.after.any (fun e => Region.binds md e && decide (e.on + 1 = k)))
 else o.after.any (fun e => Region.binds md e && decide (n ≤ e.on + 1))
def rowL (md : Region.Mode) (n : Nat) : Nat → List Oper → Bool
 | _,[] => true
 | k,o :: r => rowOk md n k o && rowL md n (k + 1) r
def FirstK (listed : Array Bool) (m k : Nat) : Prop := listed.size = m ∧ ∀ j,j < m → listed[j]? = some (decide (j < k))
theorem FirstK.next {listed : Array Bool} {m k : Nat} (h : FirstK listed m k) : FirstK (listed.setIfInBounds k true) m (k + 1) := by
 refine ⟨by simpa using h.1,fun j hj => ?_⟩
 rw [Array.getElem?_setIfInBounds]
 split
 ·next e => subst e; rw [if_pos (by rw [h.1]; exact hj)]; simp
 ·next e => rw [h.2 j hj]; congr 1; rw [decide_eq_decide]; omega
theorem FirstK.below {listed : Array Bool} {m k i : Nat} (h : FirstK listed m k) (hi : listed.getD i false = true) : i < k := by
 rcases Nat.lt_or_ge i m with hm | hm
 ·have := h.2 i hm
  simp [Array.getD_eq_getD_getElem?,this] at hi
  exact hi
 ·simp [Array.getD_eq_getD_getElem?,Array.getElem?_eq_none (show listed.size ≤ i by rw [h.1]; exact hm)] at hi
theorem FirstK.out {listed : Array Bool} {m k : Nat} (h : FirstK listed m k) (hm : k < m) : listed.getD k true = false := by
 have := h.2 k hm
 simp [Array.getD_eq_getD_getElem?,this]
end
end Go.Proofs.YteimbjamnfkapaaGreatDoor
namespace Go.Proofs.YteimbjamnfkapaaGreatDoor
open Go.RowKit
section
variable {P : Program} {md : Region.Mode} {C : World → Prop}
def lexL (md : Region.Mode) (ops : Array Oper) : Nat → List Oper → Bool
 | _,[] => true
 | k,o :: r => o.after.all (fun e => !Region.binds md e || decide (e.on < k)) && r.all (fun oj => oj.after.any (fun e => Region.binds md e && e.on == k) || o.apart ops oj) && lexL md ops (k + 1) r
theorem wp_region_h {id : Nat} {Q : Exit → Act → World → Prop} {a : Act} {w : World} {l : List Oper} {S : World → Prop} (n : Nat) (hm : P.follows .mixedOrders = true) (hn : l.length = n)
  (h : wpAnyH P .any l.toArray Q S n (Array.replicate n false) a w.drew) : (Code.region id l.toArray true).wp P Q a w := by
 subst hn
 refine wp_region_any hm ?_
 have := wpAny_of_held _ _ _ _ h
 simpa using this
end
end Go.Proofs.YteimbjamnfkapaaGreatDoor
