/- The document's own reckoning of trees, walked: may a tree be? -/
import Derived.Test.YteimbjamnfkapaaGreatDoorLRefVal6
import Derived.Test.YteimbjamnfkapaaGreatDoorLRefVal2
import Derived.Test.YteimbjamnfkapaaGreatDoorLPathDoc
import Derived.Test.YteimbjamnfkapaaGreatDoorLMathFg
import Derived.Test.YteimbjamnfkapaaGreatDoorLLoA
import Derived.Test.YteimbjamnfkapaaGreatDoorLTpC
import Derived.Test.YteimbjamnfkapaaGreatDoorLMathFd
namespace Go.Proofs.YteimbjamnfkapaaGreatDoor
open Go.RowKit
end Go.Proofs.YteimbjamnfkapaaGreatDoor
/- FlatOrder, walked. -/
namespace Go.Proofs.YteimbjamnfkapaaGreatDoor
open Go.RowKit
structure RvS (w wr : World) (v : Value) (E : List (VT × Value × Value)) : Prop where
 bel : Below w.heap.size w wr
 own : wr.ownsRow (w.heap.size + 1) 29 5 v E.length (E.flatMap vc)
 box : wr.heap[w.heap.size]? = some (.cells #[.int .i64 5,.int .i64 0,.string ⟨#[]⟩,v,.slice none 0 0] 29 (0,0))
theorem RvS.cells {w wr : World} {v : Value} {E : List (VT × Value × Value)} (h : RvS w wr v E) : Cs wr w.heap.size [.int .i64 5,.int .i64 0,.string ⟨#[]⟩,v,.slice none 0 0] := fun i u hu => by
 rw [cell_of_row wr w.heap.size i _ _ _ h.box]
 simpa using hu
theorem RvS.more {w wr w9 : World} {v v' : Value} {E : List (VT × Value × Value)} (h : RvS w wr v E) (a : VT × Value × Value) (ho : w9.ownsRow (w.heap.size + 1) 29 5 v' (E.length + 1) (E.flatMap vc ++ vc a)) (hg : wr.grownBy w9 v.ownBlock) :
  RvS w (w9.setCell ⟨w.heap.size,3,none⟩ v') v' (E ++ [a]) := by
 have hs := h.bel.size
 have hlt : w.heap.size < wr.heap.size := (Array.getElem?_eq_some_iff.1 h.box).1
 have hne : some w.heap.size ≠ v.ownBlock := fun e => by have := (h.own.lt _ e.symm).1; omega
 have hbx := (hg.block _ hlt hne).trans h.box
 refine ⟨vset_bel (h.bel.grown hg hs (fun q hq => by have := (h.own.lt q hq).1; omega)) (Nat.le_refl _),?_,?_⟩
 ·have := ownsRow_setCell_below ho (a := ⟨w.heap.size,3,none⟩) (by show w.heap.size < w.heap.size + 1; omega) v'
  rw [List.length_append,List.flatMap_append]
  simpa using this
 ·rw [lbox_set hbx]; rfl
theorem RvS.hv {w wr : World} {v : Value} {E : List (VT × Value × Value)} (h : RvS w wr v E) (hE : ∀ e ∈ E,HV wr e.1 e.2.1 e.2.2) : HV wr (.mk 5 0 ⟨#[]⟩ (E.map (·.1)) [] []) v (.slice none 0 0) := by
 have hc := h.own
 rcases hc with ⟨-,⟨rfl,h0⟩ | ⟨g,cap,cur,rfl,-,-,hn,hcm,-,-⟩⟩
 ·have : E = [] := List.eq_nil_of_length_eq_zero h0
  subst this
  exact hv_leaf wr 5 0 _ (by decide) (by decide) (by decide)
 have key : ∀ (i : Nat) (e : VT × Value × Value),E[i]? = some e → ∀ (c : Nat) (u : Value),(vc e)[c]? = some u → wr.cell? ⟨g,i * 5 + c,none⟩ = some u := by
  intro i e he c u hu
  have hi := lt_of_some he
  have hc : c < 5 := lt_of_some hu
  rw [h.own.cellAt (i * 5 + c) (by omega),flat_at vc 5 (fun _ => rfl) E i c e he hc]
  exact hu
 refine hv_in (by decide) (by decide) (by decide) ⟨⟨g,0,none⟩,fun i => ((E[i]?).map (·.2.1)).getD (.slice none 0 0),fun i => ((E[i]?).map (·.2.2)).getD (.slice none 0 0),⟨_,cap,by rw [List.length_map],by simpa using hn,hcm,fun _ => rfl⟩,fun i t ht => ?_,fun i t ht => ?_⟩ (mf_nil wr 0 0).inM
 ·rw [List.getElem?_map] at ht
  obtain ⟨e,he,rfl⟩ := Option.map_eq_some_iff.1 ht
  rw [add_at]
  simp only [he,Option.map_some,Option.getD_some]
  exact ⟨key i e he 0 _ rfl,key i e he 1 _ rfl,key i e he 2 _ rfl,key i e he 3 _ rfl,key i e he 4 _ rfl⟩
 ·rw [List.getElem?_map] at ht
  obtain ⟨e,he,rfl⟩ := Option.map_eq_some_iff.1 ht
  simp only [he,Option.map_some,Option.getD_some]
  exact hE e (List.mem_of_getElem? he)
theorem flat_tab (T : VT) (x y : Value) (X : World) (hT : HV X T x y) (hg : GlobF X) : Calls Tryz.prog 24 #[vv T x y] X fun e w' => ∃ oh ch orr cr,e = .returned (.tuple #[.agg #[.slice oh (flatH T).length ch,.slice orr (flatR T).length cr],.int .i64 (flatE T)]) ∧ InS w' (flatH T) (.slice oh (flatH T).length ch) ∧ InRs w' (flatR T) (.slice orr (flatR T).length cr) ∧ Below X.heap.size X w' := by
 refine (flat_any T x y X hT hg).mono ?_
 rintro e w' ⟨h,r,rfl,hh,hr,hb⟩
 obtain ⟨o1,c1,rfl⟩ := hh.sl
 obtain ⟨o2,c2,rfl⟩ := hr.sl
 exact ⟨o1,c1,o2,c2,rfl,hh,hr,hb⟩
theorem tb2_of {w W : World} {a b : Value} (h : W = w.alloc (.cells #[a,b] 34)) : W.cell? ⟨w.heap.size,0,none⟩ = some a ∧ W.cell? ⟨w.heap.size,1,none⟩ = some b ∧ Below w.heap.size w W := by
 subst h
 exact ⟨by simp,by simp,valloc_bel (Below.refl _ _) _⟩
end Go.Proofs.YteimbjamnfkapaaGreatDoor
/- loss: May; a value wrapped; what becomes of a value without parts. -/
namespace Go.Proofs.YteimbjamnfkapaaGreatDoor
open Go.RowKit
def valB : ByteArray := ⟨#[118,97,108,117,101]⟩
def nulB : ByteArray := ⟨#[110,117,108,108]⟩
def wrapT (T : VT) : VT := .mk 6 0 ⟨#[]⟩ [] [valB] [T]
def mayF (f : Int) (T : VT) : Bool := if f = 1 then (mayB 0 1 T && !stpT T) else if f = 2 then tomB T else if f = 3 then decide (flatE T = 0) else false
def sayF (f : Int) (T : VT) : Bool := mayF f (wrapT T)
def leafF (f : Int) (T : VT) : VT := if sayF f T = true then T else if T.kd = 0 then leafT 4 0 nulB else if T.kd = 3 then (if 400 < T.st.size + 2 then leafT 4 0 T.st else leafT 3 0 (T.st ++ ⟨#[46,48]⟩)) else leafT 4 0 T.st
def leafW (T : VT) : Int := if T.kd = 0 then 4 else if T.kd = 3 then (if 400 < T.st.size + 2 then 6 else 5) else 1
def leafN (f : Int) (T : VT) (p : List PStep) : List LN := if sayF f T = true then [] else [(p,leafW T)]
structure GlobL (w : World) : Prop where
 f : GlobF w
 n : GlobN w
theorem GlobL.on {w w' : World} (h : GlobL w) (hb : Below w.heap.size w w') : GlobL w' := ⟨h.f.on hb,h.n.on hb⟩
theorem ls_nil (w : World) (S : Nat → Prop) : LS w S [] (.slice none 0 0) := ⟨⟨0,0,none⟩,fun _ => .nilIface,fun _ => .nilIface,⟨none,0,rfl,Nat.le_refl _,Nat.zero_le _,fun h => absurd h (by simp)⟩,fun h => absurd h (by simp),fun i t h => by simp at h,fun i t h => by simp at h⟩
theorem ms_nil (w : World) (S : Nat → Prop) : MS w S [] [] (.slice none 0 0) := ⟨⟨0,0,none⟩,fun _ => .nilIface,fun _ => .nilIface,⟨none,0,rfl,Nat.le_refl _,Nat.zero_le _,fun h => absurd h (by simp)⟩,rfl,fun h => absurd h (by simp),fun i u h => by simp at h,fun i t h => by simp at h,fun i t h => by simp at h⟩
theorem hs_leaf (w : World) (S : Nat → Prop) (k n : Int) (s : ByteArray) (hk : (Lit.int .i64 k).wf = true) (hn : (Lit.int .i64 n).wf = true) (hs : s.size ≤ maxLen) : HS w S (leafT k n s) (.slice none 0 0) (.slice none 0 0) := hs_of (T := leafT k n s) ⟨hk,hn,hs⟩ (ls_nil w S) (ms_nil w S)
theorem ms_one {w : World} {S : Nat → Prop} {nb : Nat} {c : ByteArray} {T : VT} {x y : Value} (hc : ∀ (i : Nat) (u : Value),(pc (c,T,x,y))[i]? = some u → w.cell? ⟨nb,i,none⟩ = some u) (hs : c.size ≤ maxLen) (hS : S nb) (hT : HS w S T x y) : MS w S [c] [T] (.slice (some ⟨nb,0,none⟩) 1 1) := by
 refine ⟨⟨nb,0,none⟩,fun _ => x,fun _ => y,⟨_,_,rfl,Nat.le_refl _,by decide,fun _ => rfl⟩,rfl,fun _ => hS,fun i u h => ?_,fun i t h => ?_,fun i t h => ?_⟩
 ·have := lt_of_some h
  simp at this
  subst this
  simp at h; subst h
  exact ⟨by rw [add_at]; exact hc 0 _ rfl,hs⟩
 ·have := lt_of_some h
  simp at this
  subst this
  simp at h; subst h
  rw [add_at]
  exact ⟨hc 1 _ rfl,hc 2 _ rfl,hc 3 _ rfl,hc 4 _ rfl,hc 5 _ rfl⟩
 ·have := lt_of_some h
  simp at this
  subst this
  simp at h; subst h
  exact hT
theorem hs_wrap {w : World} {S : Nat → Prop} {nb : Nat} {T : VT} {x y : Value} (hc : ∀ (i : Nat) (u : Value),(pc (valB,T,x,y))[i]? = some u → w.cell? ⟨nb,i,none⟩ = some u) (hS : S nb) (hT : HS w S T x y) : HS w S (wrapT T) (.slice none 0 0) (.slice (some ⟨nb,0,none⟩) 1 1) :=
 hs_of (T := wrapT T) ⟨show (Lit.int .i64 6).wf = true by decide,show (Lit.int .i64 0).wf = true by decide,show (⟨#[]⟩ : ByteArray).size ≤ maxLen by decide⟩ (ls_nil w S) (ms_one hc (by decide) hS hT)
theorem hv_hs {w : World} {T : VT} {x y : Value} (h : HV w T x y) : HS w (fun _ => True) T x y := by
 induction h with
 | mk a b f g p q hk hn hs hL hM hK cL cK cM _ _ ihL ihM => exact .mk a b f g p q hk hn hs hL hM hK (fun _ => trivial) (fun _ => trivial) cL cK cM ihL ihM
def WrapP (T : VT) (x y : Value) (w : World) (e : Ending) (w' : World) : Prop := ∃ nb,e = .returned (vv (wrapT T) (.slice none 0 0) (.slice (some ⟨nb,0,none⟩) 1 1)) ∧ Below w.heap.size w w' ∧ w.heap.size ≤ nb ∧ nb < w'.heap.size ∧ (∀ (i : Nat) (u : Value),(pc (valB,T,x,y))[i]? = some u → w'.cell? ⟨nb,i,none⟩ = some u)
set_option maxRecDepth 100000 in
set_option maxHeartbeats 1000000 in
theorem lwrap_any (T : VT) (o1 : Option Addr) (n1 c1 : Nat) (o2 : Option Addr) (n2 c2 : Nat) (w : World) :
  Calls Tryz.prog 164 #[vv T (.slice o1 n1 c1) (.slice o2 n2 c2)] w (WrapP T (.slice o1 n1 c1) (.slice o2 n2 c2) w) := by
 unfold WrapP
 simp only [vv]
 go_enter Tryz.func164,Tryz.ntmps164
 go_wp2_with fail
 refine bodyPost_ret (v := .agg #[.int .i64 6,.int .i64 0,.string ⟨#[]⟩,.slice none 0 0,.slice (some ⟨w.heap.size + 1 + 1,0,none⟩) 1 1]) (by simp [results,Tryz.results164,go_sem]) rfl ?_
 refine ⟨w.heap.size + 1 + 1,rfl,valloc_bel (valloc_bel (valloc_bel (Below.refl _ _) _) _) _,by omega,by simp,fun i u h => ?_⟩
 have h2 := new_cells ((w.alloc (.cells #[.int .i64 T.kd,.int .i64 T.nm,.string T.st,.slice o1 n1 c1,.slice o2 n2 c2] 29)).alloc (.cells #[.int .i64 6,.int .i64 0,.string ⟨#[]⟩,.slice none 0 0,.slice (some ⟨w.heap.size + 1 + 1,0,none⟩) 1 1] 29)) (pc (valB,T,.slice o1 n1 c1,.slice o2 n2 c2)) 60 i u h
 rw [add_at] at h2
 simp only [World.size_alloc] at h2
 exact h2
set_option maxRecDepth 100000 in
set_option maxHeartbeats 1000000 in
theorem ltext_any (s : ByteArray) (w : World) :
  Calls Tryz.prog 224 #[.string s] w fun e w' => e = .returned (vv (leafT 4 0 s) (.slice none 0 0) (.slice none 0 0)) ∧ Below w.heap.size w w' := by
 simp only [vv,leafT,VT.kd,VT.nm,VT.st]
 go_enter Tryz.func224,Tryz.ntmps224
 go_wp2_with fail
 refine bodyPost_ret (v := .agg #[.int .i64 4,.int .i64 0,.string s,.slice none 0 0,.slice none 0 0]) (by simp [results,Tryz.results224,go_sem]) rfl ?_
 exact ⟨rfl,valloc_bel (Below.refl _ _) _⟩
theorem ltext_at (s : ByteArray) (w : World) : Calls Tryz.prog 224 #[.string s] w fun e w' => e = .returned (.agg #[.int .i64 4,.int .i64 0,.string s,.slice none 0 0,.slice none 0 0]) ∧ Below w.heap.size w w' := ltext_any s w
set_option maxRecDepth 100000 in
set_option maxHeartbeats 2000000 in
theorem lmay_any (f : Int) (T : VT) (x y : Value) (w : World) (hT : HV w T x y) (hg : GlobL w) :
  Calls Tryz.prog 28 #[.int .i64 f,vv T x y] w fun e w' => e = .returned (.bool (mayF f T)) ∧ Below w.heap.size w w' := by
 have CG := hid (fun (X : World) (hX : Below w.heap.size w X) => vgood_any T x y X (hg.n.on hX).t.g (hT.onto hX))
 have CS := hid (fun (X : World) (hX : Below w.heap.size w X) => stamped_of (szT T) T x y X (Nat.le_refl _) (hT.onto hX))
 have CM := hid (fun (X : World) (hX : Below w.heap.size w X) => tpmay_any T x y X (hg.n.on hX) (hT.onto hX))
 have CF := hid (fun (X : World) (hX : Below w.heap.size w X) => flat_tab T x y X (hT.onto hX) (hg.f.on hX))
 obtain ⟨o1,n1,c1,o2,n2,c2,rfl,rfl⟩ := hv_slices hT
 have HB0 := hid (valloc_bel (Below.refl w.heap.size w) (.cells #[.int .i64 T.kd,.int .i64 T.nm,.string T.st,.slice o1 n1 c1,.slice o2 n2 c2] 29))
 obtain ⟨f0,f1,f2,f3,f4⟩ := tpbox w (.int .i64 T.kd) (.int .i64 T.nm) (.string T.st) (.slice o1 n1 c1) (.slice o2 n2 c2)
 unfold mayF
 simp only [vv] at CG CS CM CF ⊢
 clear hT hg
 by_cases h1 : f = 1
 ·subst h1
  rw [if_pos rfl]
  clear CM CF
  generalize mayB 0 1 T = M at *
  generalize stpT T = S at *
  cases M with
  | false =>
   go_enter Tryz.func28,Tryz.ntmps28
   go_wp2_with fail
   go_at_call 43
   refine (CG.out _ HB0.out).mono ?_
   rintro e w1 ⟨rfl,hb1⟩
   have HB1 := hid (vonto HB0.out hb1)
   go_wp2_with fail
   go_ret
   exact ⟨rfl,HB1.out⟩
  | true =>
   go_enter Tryz.func28,Tryz.ntmps28
   go_wp2_with fail
   go_at_call 43
   refine (CG.out _ HB0.out).mono ?_
   rintro e w1 ⟨rfl,hb1⟩
   have HB1 := hid (vonto HB0.out hb1)
   replace f0 := keepCell hb1 f0
   replace f1 := keepCell hb1 f1
   replace f2 := keepCell hb1 f2
   replace f3 := keepCell hb1 f3
   replace f4 := keepCell hb1 f4
   clear hb1 CG
   go_wp2_with fail
   go_at_call 65
   refine (CS.out _ HB1.out).mono ?_
   rintro e w2 ⟨rfl,hb2⟩
   have HB2 := hid (vonto HB1.out hb2)
   go_wp2_with fail
   go_ret
   exact ⟨by cases S <;> rfl,HB2.out⟩
 rw [if_neg h1]
 by_cases h2 : f = 2
 ·subst h2
  rw [if_pos rfl]
  clear CG CF CS
  generalize tomB T = M at *
  go_enter Tryz.func28,Tryz.ntmps28
  go_wp2_with fail
  go_at_call 66
  refine (CM.out _ HB0.out).mono ?_
  rintro e w1 ⟨rfl,hb1⟩
  have HB1 := hid (vonto HB0.out hb1)
  go_wp2_with fail
  go_ret
  exact ⟨rfl,HB1.out⟩
 rw [if_neg h2]
 by_cases h3 : f = 3
 ·subst h3
  rw [if_pos rfl]
  clear CG CM CS
  generalize flatE T = E0 at CF ⊢
  go_enter Tryz.func28,Tryz.ntmps28
  go_wp2_with fail
  go_at_call 24
  refine (CF.out _ HB0.out).mono ?_
  rintro e w1 ⟨oh,ch,orr,cr,rfl,-,-,hb1⟩
  have HB1 := hid (vonto HB0.out hb1)
  clear hb1 CF
  go_upto_region 8 with fail
  refine cewp_gen ?_
  intro W hW
  obtain ⟨-,-,hbW⟩ := tb2_of hW
  have HB2 := hid (vonto HB1.out hbW)
  clear hW hbW
  go_wp2_with fail
  go_ret
  exact ⟨rfl,HB2.out⟩
 rw [if_neg h3]
 have i1 := ikey f 1 h1
 have i2 := ikey f 2 h2
 have i3 := ikey f 3 h3
 go_enter Tryz.func28,Tryz.ntmps28
 go_wp2_with fail
 go_ret
 exact ⟨rfl,HB0.out⟩
set_option maxRecDepth 100000 in
set_option maxHeartbeats 2000000 in
theorem lsays_any {W : World} {b : Nat} {f : Int} {nv ev : Value} {now : List PStep} {E : List LN} {w : World} (h : Fk W b f nv ev now E w) (hg : GlobL W) (T : VT) (x y : Value) (hT : HV w T x y) :
  Calls Tryz.prog 223 #[.pointer (some ⟨b,0,none⟩),vv T x y] w fun e w' => e = .returned (.bool (sayF f T)) ∧ Below w.heap.size w w' := by
 obtain ⟨o1,n1,c1,o2,n2,c2,rfl,rfl⟩ := hv_slices hT
 have HB0 := hid (valloc_bel (Below.refl w.heap.size w) (.cells #[.int .i64 T.kd,.int .i64 T.nm,.string T.st,.slice o1 n1 c1,.slice o2 n2 c2] 29))
 obtain ⟨f0,f1,f2,f3,f4⟩ := tpbox w (.int .i64 T.kd) (.int .i64 T.nm) (.string T.st) (.slice o1 n1 c1) (.slice o2 n2 c2)
 have fb := keepCell HB0.out h.cells.1
 have CW := hid (fun (X : World) => lwrap_any T o1 n1 c1 o2 n2 c2 X)
 have CM := hid (fun (X : World) (nb : Nat) (hX : Below w.heap.size w X) (hc : ∀ (i : Nat) (u : Value),(pc (valB,T,.slice o1 n1 c1,.slice o2 n2 c2))[i]? = some u → X.cell? ⟨nb,i,none⟩ = some u) => lmay_any f (wrapT T) (.slice none 0 0) (.slice (some ⟨nb,0,none⟩) 1 1) X (hs_wrap (S := fun _ => True) hc trivial (hv_hs (hT.onto hX))).hv (hg.on (vonto h.bel hX)))
 have e1 : mayF f (wrapT T) = sayF f T := rfl
 rw [e1] at CM
 clear e1 h hT hg
 generalize sayF f T = R at *
 simp only [vv] at CW ⊢
 go_enter Tryz.func223,Tryz.ntmps223
 go_wp2_with fail
 have HB := HB0.out
 generalize (w.alloc (.cells #[.int .i64 T.kd,.int .i64 T.nm,.string T.st,.slice o1 n1 c1,.slice o2 n2 c2] 29)) = w0 at *
 have hS0 : w0.drew.cell? ⟨b,0,none⟩ = some (.int .i64 f) ∧ w0.drew.cell? ⟨w.heap.size,0,none⟩ = some (.int .i64 T.kd) ∧ w0.drew.cell? ⟨w.heap.size,1,none⟩ = some (.int .i64 T.nm) ∧ w0.drew.cell? ⟨w.heap.size,2,none⟩ = some (.string T.st) ∧ w0.drew.cell? ⟨w.heap.size,3,none⟩ = some (.slice o1 n1 c1) ∧ w0.drew.cell? ⟨w.heap.size,4,none⟩ = some (.slice o2 n2 c2) := ⟨fb,f0,f1,f2,f3,f4⟩
 refine wp_region_ends2 (S := fun X => X.cell? ⟨b,0,none⟩ = some (.int .i64 f) ∧ X.cell? ⟨w.heap.size,0,none⟩ = some (.int .i64 T.kd) ∧ X.cell? ⟨w.heap.size,1,none⟩ = some (.int .i64 T.nm) ∧ X.cell? ⟨w.heap.size,2,none⟩ = some (.string T.st) ∧ X.cell? ⟨w.heap.size,3,none⟩ = some (.slice o1 n1 c1) ∧ X.cell? ⟨w.heap.size,4,none⟩ = some (.slice o2 n2 c2)) (by simp) (by kernel_rfl) (by kernel_rfl) (by kernel_rfl) (by kernel_rfl) (by kernel_rfl) (by kernel_rfl) ?_
 simp only [List.dropLast,List.getLast_cons_cons,List.getLast_singleton,List.length_cons,List.length_nil]
 refine take_h (i := 0) (v := ?_) rfl (by kernel_rfl) (by kernel_rfl) (by kernel_rfl) (fun _ _ _ h => h) (by rfl) ?_ hS0 ?_
 rotate_left
 ·(intro X hX; obtain ⟨z1,z2,z3,z4,z5,z6⟩ := hX; go_simp; try with_reducible rfl)
 try simp only [Act.put,List.setIfInBounds_toArray,List.set_cons_zero,List.set_cons_succ]
 refine take_h (i := 1) (v := ?_) rfl (by kernel_rfl) (by kernel_rfl) (by kernel_rfl) (fun _ _ _ h => h) (by rfl) ?_ hS0 ?_
 rotate_left
 ·(intro X hX; obtain ⟨z1,z2,z3,z4,z5,z6⟩ := hX; go_simp; try with_reducible rfl)
 try simp only [Act.put,List.setIfInBounds_toArray,List.set_cons_zero,List.set_cons_succ]
 refine take_h (i := 2) (v := ?_) rfl (by kernel_rfl) (by kernel_rfl) (by kernel_rfl) (fun _ _ _ h => h) (by rfl) ?_ hS0 ?_
 rotate_left
 ·(intro X hX; obtain ⟨z1,z2,z3,z4,z5,z6⟩ := hX; go_simp; try with_reducible rfl)
 try simp only [Act.put,List.setIfInBounds_toArray,List.set_cons_zero,List.set_cons_succ]
 refine take_h (i := 3) (v := ?_) rfl (by kernel_rfl) (by kernel_rfl) (by kernel_rfl) (fun _ _ _ h => h) (by rfl) ?_ hS0 ?_
 rotate_left
 ·(intro X hX; obtain ⟨z1,z2,z3,z4,z5,z6⟩ := hX; go_simp; try with_reducible rfl)
 try simp only [Act.put,List.setIfInBounds_toArray,List.set_cons_zero,List.set_cons_succ]
 refine take_h (i := 4) (v := ?_) rfl (by kernel_rfl) (by kernel_rfl) (by kernel_rfl) (fun _ _ _ h => h) (by rfl) ?_ hS0 ?_
 rotate_left
 ·(intro X hX; obtain ⟨z1,z2,z3,z4,z5,z6⟩ := hX; go_simp; try with_reducible rfl)
 try simp only [Act.put,List.setIfInBounds_toArray,List.set_cons_zero,List.set_cons_succ]
 refine step_h (i := 5) rfl (by kernel_rfl) ?_
 intro KK hKK
 go_simp
 go_at_call 164
 refine (CW.out w0.drew).mono ?_
 rintro e w6 ⟨nb,rfl,hb6,-,-,hc6⟩
 have hb6' : Below w0.heap.size w0 w6 := vonto (Below.refl w0.heap.size w0).drew hb6
 have CM2 := hid (CM.out w6 nb (vonto HB hb6') hc6)
 have HB6 := hid (vonto HB hb6')
 simp only [vv] at CM2
 go_wp2_with fail
 refine hKK.out _ _ ⟨keepCell hb6' fb,keepCell hb6' f0,keepCell hb6' f1,keepCell hb6' f2,keepCell hb6' f3,keepCell hb6' f4⟩ (fun hS1 => ?_)
 clear hKK KK hS0 hc6 CM CW
 try simp only [Act.put,List.setIfInBounds_toArray,List.set_cons_zero,List.set_cons_succ]
 refine step_h (i := 6) rfl (by kernel_rfl) ?_
 intro KK hKK
 go_simp
 go_at_call 28
 refine CM2.out.mono ?_
 rintro e w7 ⟨rfl,hb7⟩
 have HB7 := hid (vonto HB6.out hb7)
 go_wp2_with fail
 refine hKK.out _ _ ⟨keepCell hb7 hS1.1,keepCell hb7 hS1.2.1,keepCell hb7 hS1.2.2.1,keepCell hb7 hS1.2.2.2.1,keepCell hb7 hS1.2.2.2.2.1,keepCell hb7 hS1.2.2.2.2.2⟩ (fun hS2 => ?_)
 clear hKK KK hS1 CM2
 try simp only [Act.put,List.setIfInBounds_toArray,List.set_cons_zero,List.set_cons_succ]
 refine wpAnyH_done (by kernel_rfl) ?_ _
 change Oper.wp _ _ _ _ _ _
 go_simp
 go_wp2_with fail
 go_ret
 exact ⟨rfl,HB7.out⟩
theorem Mv.z5 {b : Nat} {nv ev nv' ev' : Value} {w w' : World} (h : Mv b nv ev w nv' ev' w') {k : Nat} (z : Z5 w k) (s : Sx b nv ev w k) : Z5 w' k := by
 have e := h.at_ s
 refine ⟨⟨h.cell s z.1.1,h.cell s z.1.2.1,h.cell s z.1.2.2.1,h.cell s z.1.2.2.2.1,h.cell s z.1.2.2.2.2⟩,fun o => ?_⟩
 have := z.2 o
 simp only [World.frozen?] at this ⊢
 rw [e]; exact this
structure FitS (W : World) (b : Nat) (f : Int) (nv ev : Value) (w : World) (now : List PStep) (E : List LN) (T : VT) (x y nv' ev' : Value) (rb : Nat) (w1 : World) : Prop where
 fk : Fk W b f nv' ev' now E w1
 mv : Mv b nv ev w nv' ev' w1
 hs : HS w1 (fun k => Sx b nv' ev' w1 k ∧ w.heap.size ≤ k ∧ k ≠ rb) T x y
 sx : Sx b nv' ev' w1 rb
 lo : w.heap.size ≤ rb
 wl : W.heap.size ≤ w.heap.size
theorem FitS.set {W : World} {b : Nat} {f : Int} {nv ev : Value} {w : World} {now : List PStep} {E : List LN} {T : VT} {x y nv' ev' : Value} {rb : Nat} {w1 : World} (h : FitS W b f nv ev w now E T x y nv' ev' rb w1) (o : Nat) (u : Value) : FitS W b f nv ev w now E T x y nv' ev' rb (w1.setCell ⟨rb,o,none⟩ u) := by
 have k0 := set_grownW w1 rb o u
 have keep : ∀ k,k < w1.heap.size → k ≠ rb → (w1.setCell ⟨rb,o,none⟩ u).heap[k]? = w1.heap[k]? := fun k hk e => k0.block k hk (fun h => e (by injection h))
 have sx : ∀ {q},Sx b nv' ev' w1 q → Sx b nv' ev' (w1.setCell ⟨rb,o,none⟩ u) q := fun {q} s => ⟨by rw [World.size_setCell]; exact s.1,s.2⟩
 have nb : ∀ {v : Value} {B s m : Nat} {e : TypeId} {ys : List Value},w1.ownsRow B e s v m ys → v.ownBlock ≠ some rb → (w1.setCell ⟨rb,o,none⟩ u).ownsRow B e s v m ys := fun {v B s m e ys} r hr => r.kept k0 (.inr hr)
 refine ⟨⟨vset_belF h.fk.bel (by have := h.lo; have := h.wl; omega),h.fk.lo,(keep b h.fk.lt (fun e => h.sx.2.1 e.symm)).trans h.fk.box,nb h.fk.ns h.sx.2.2.1,nb h.fk.es h.sx.2.2.2⟩,⟨by rw [World.size_setCell]; exact h.mv.sz,fun k hk e1 e2 e3 => (keep k (Nat.lt_of_lt_of_le hk h.mv.sz) (fun e => by have := h.lo; omega)).trans (h.mv.keep k hk e1 e2 e3),h.mv.nn,h.mv.ne⟩,h.hs.onto (fun k hk => keep k hk.1.1 hk.2.2) (fun k hk => ⟨sx hk.1,hk.2⟩),sx h.sx,h.lo,h.wl⟩
theorem fits_of {W : World} {b : Nat} {f : Int} {nv ev : Value} {w : World} {now : List PStep} {E : List LN} {T : VT} {x y nv' ev' : Value} {rb : Nat} {w1 : World} (h1 : Fk W b f nv' ev' now E w1) (h2 : Mv b nv ev w nv' ev' w1) (h3 : HS w1 (fun k => Sx b nv' ev' w1 k ∧ w.heap.size ≤ k ∧ k ≠ rb) T x y) (h4 : Sx b nv' ev' w1 rb) (h5 : w.heap.size ≤ rb) (h6 : W.heap.size ≤ w.heap.size) : FitS W b f nv ev w now E T x y nv' ev' rb w1 := ⟨h1,h2,h3,h4,h5,h6⟩
theorem FitS.put {W : World} {b : Nat} {f : Int} {nv ev : Value} {w : World} {now : List PStep} {E : List LN} {T : VT} {x y nv' ev' : Value} {rb : Nat} {w1 : World} (h : FitS W b f nv ev w now E T x y nv' ev' rb w1) (v0 v1 v2 v3 v4 : Value) : HS (put5 w1 rb 0 v0 v1 v2 v3 v4) (fun k => Sx b nv' ev' (put5 w1 rb 0 v0 v1 v2 v3 v4) k ∧ w.heap.size ≤ k) T x y ∧ Fk W b f nv' ev' now E (put5 w1 rb 0 v0 v1 v2 v3 v4) ∧ Mv b nv ev w nv' ev' (put5 w1 rb 0 v0 v1 v2 v3 v4) := by
 have g := ((((h.set 0 v0).set (0 + 1) v1).set (0 + 2) v2).set (0 + 3) v3).set (0 + 4) v4
 exact ⟨g.hs.onto (fun _ _ => rfl) (fun k hk => ⟨hk.1,hk.2.1⟩),g.fk,g.mv⟩
def FitP (W : World) (b : Nat) (f : Int) (nv ev : Value) (w : World) (now : List PStep) (E : List LN) (T : VT) (e : Ending) (w' : World) : Prop := ∃ x' y' nv' ev',e = .returned (vv T x' y') ∧ HS w' (fun k => Sx b nv' ev' w' k ∧ w.heap.size ≤ k) T x' y' ∧ Fk W b f nv' ev' now E w' ∧ Mv b nv ev w nv' ev' w'
set_option maxRecDepth 100000 in
set_option maxHeartbeats 2000000 in
theorem lnumber_any {W : World} {b : Nat} {f : Int} {nv ev : Value} {now : List PStep} {E : List LN} {w : World} (s : ByteArray) (h : Fk W b f nv ev now E w) (hg : Glob5 W) (hn : now.length ≤ 100000) (hk : ∀ s ∈ now,Small s) (hE : E.length ≤ 1000000) (hs : s.size ≤ 1000000) :
  Calls Tryz.prog 225 #[.pointer (some ⟨b,0,none⟩),.string s] w (FitP W b f nv ev w now (E ++ [(now,if 400 < s.size + 2 then 6 else 5)]) (if 400 < s.size + 2 then leafT 4 0 s else leafT 3 0 (s ++ ⟨#[46,48]⟩))) := by
 have HG := hid hg
 have HK := hid hk
 have HF := hid h
 clear h hg hk
 have hz2 : (⟨#[46,48]⟩ : ByteArray).size = 2 := rfl
 have hsz : (s ++ (⟨#[46,48]⟩ : ByteArray)).size = s.size + 2 := by rw [ByteArray.size_append]; rfl
 unfold FitP
 by_cases hl : 400 < s.size + 2
 ·rw [if_pos hl,if_pos hl]
  have CN := hid (fun (X : World) (hX : Below w.heap.size w X) => fnote_any (W := W) (b := b) (f := f) (w := X) 6 (HF.out.onto hX) HG.out hn HK.out hE)
  have CT := hid (fun (X : World) => ltext_any s X)
  simp only [vv,leafT,VT.kd,VT.nm,VT.st] at CT ⊢
  go_enter Tryz.func225,Tryz.ntmps225
  go_wp2_with fail
  have hb0 := valloc_bel (Below.refl w.heap.size w) (.cells #[.int .i64 0,.int .i64 0,.string ⟨#[]⟩,.slice none 0 0,.slice none 0 0] 29)
  have HZ0 := hid (z5_new w)
  have HR0 := hid (HF.out.fresh (w' := w.alloc (.cells #[.int .i64 0,.int .i64 0,.string ⟨#[]⟩,.slice none 0 0,.slice none 0 0] 29)) (Nat.le_refl _) (by simp))
  have HM0 := hid (Mv.of (b := b) (nv := nv) (ev := ev) hb0)
  go_at_call 163
  refine (CN.out _ hb0).mono ?_
  rintro e w2 ⟨rfl,ev2,hf2,hm2⟩
  have HZ2 := hid (hm2.z5 HZ0.out HR0.out)
  have HR2 := hid (hm2.sx HR0.out)
  have HF2 := hid hf2
  have HM2 := hid (HM0.out.trans hm2)
  clear hf2 hm2 hb0 CN
  go_wp2_with fail
  go_at_call 224
  refine (CT.out w2).mono ?_
  rintro e w3 ⟨rfl,hb3⟩
  obtain ⟨⟨e0,e1,e2,e3,e4⟩,z0⟩ := HZ2.out.onto hb3
  have HFS := hid (fits_of (W := W) (f := f) (w := w) (T := leafT 4 0 s) (x := .slice none 0 0) (y := .slice none 0 0) (HF2.out.onto hb3) (HM2.out.trans (Mv.of hb3)) (hs_leaf _ _ 4 0 s (by decide) (by decide) (by unfold maxLen; omega)) ((Mv.of hb3).sx HR2.out) (Nat.le_refl _) HF.out.bel.size)
  clear hb3 CT HZ2 HF2 HM2 HR2
  go_wp2_with fail
  refine bodyPost_ret (v := vv (leafT 4 0 s) (.slice none 0 0) (.slice none 0 0)) (by simp [results,Tryz.results225,go_sem,vv,VT.kd,VT.nm,VT.st,leafT,e0,e1,e2,e3,e4]) rfl ?_
  exact ⟨_,_,_,_,rfl,HFS.out.put _ _ _ _ _⟩
 ·rw [if_neg hl,if_neg hl]
  have CN := hid (fun (X : World) (hX : Below w.heap.size w X) => fnote_any (W := W) (b := b) (f := f) (w := X) 5 (HF.out.onto hX) HG.out hn HK.out hE)
  simp only [vv,leafT,VT.kd,VT.nm,VT.st]
  go_enter Tryz.func225,Tryz.ntmps225
  go_wp2_with fail
  have hb0 := valloc_bel (Below.refl w.heap.size w) (.cells #[.int .i64 0,.int .i64 0,.string ⟨#[]⟩,.slice none 0 0,.slice none 0 0] 29)
  have HZ0 := hid (z5_new w)
  have HR0 := hid (HF.out.fresh (w' := w.alloc (.cells #[.int .i64 0,.int .i64 0,.string ⟨#[]⟩,.slice none 0 0,.slice none 0 0] 29)) (Nat.le_refl _) (by simp))
  have HM0 := hid (Mv.of (b := b) (nv := nv) (ev := ev) hb0)
  go_at_call 163
  refine (CN.out _ hb0).mono ?_
  rintro e w2 ⟨rfl,ev2,hf2,hm2⟩
  obtain ⟨⟨e0,e1,e2,e3,e4⟩,z0⟩ := hm2.z5 HZ0.out HR0.out
  have HFS := hid (fits_of (W := W) (f := f) (w := w) (T := leafT 3 0 (s ++ ⟨#[46,48]⟩)) (x := .slice none 0 0) (y := .slice none 0 0) hf2 (HM0.out.trans hm2) (hs_leaf _ _ 3 0 _ (by decide) (by decide) (by unfold maxLen; omega)) (hm2.sx HR0.out) (Nat.le_refl _) HF.out.bel.size)
  clear hf2 hm2 hb0 CN
  go_wp2_with fail
  refine bodyPost_ret (v := vv (leafT 3 0 (s ++ ⟨#[46,48]⟩)) (.slice none 0 0) (.slice none 0 0)) (by simp [results,Tryz.results225,go_sem,vv,VT.kd,VT.nm,VT.st,leafT,e0,e1,e2,e3,e4]) rfl ?_
  exact ⟨_,_,_,_,rfl,HFS.out.put _ _ _ _ _⟩
end Go.Proofs.YteimbjamnfkapaaGreatDoor
