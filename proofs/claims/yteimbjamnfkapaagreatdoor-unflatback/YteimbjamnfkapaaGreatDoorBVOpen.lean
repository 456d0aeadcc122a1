/- What the laws' list of variables and the world's shape give at stage 16: the library's table of powers, its two errors, its greatest length. -/
import Derived.Test.YteimbjamnfkapaaGreatDoorBUnP
import Derived.Test.YteimbjamnfkapaaGreatDoorBMathUc
import Derived.Test.YteimbjamnfkapaaGreatDoorBVSize
import Derived.Handed
import Derived.HandedShaped
import Derived.Test.YteimbjamnfkapaaGreatDoorBFlO
import Derived.Test.YteimbjamnfkapaaGreatDoorRows
import Derived.Stop.LaidErr
import Derived.LaidSub
import Derived.MakeChecks
import Derived.Lib.LaidTab
import Derived.Shelf.Vars
import Derived.WideShapes
import Derived.Test.YteimbjamnfkapaaGreatDoorBVBase
/- An argument that is a value: its tree. -/
/- Plain mathematics: a good tree is made as it is normally made; leaves in any order. -/
namespace Go.Proofs.YteimbjamnfkapaaGreatDoor
open Go.RowKit
theorem five_parts {n : Int} {s : ByteArray} {L : List VT} {K : List ByteArray} {V : List VT} (h : nodeB (.mk 5 n s L K V) = true) : n = 0 ∧ s = ⟨#[]⟩ ∧ V = [] := by
 change nodeC 5 n (n == 0) s.toList.isEmpty ((L.length : Int) == 0) ((V.length : Int) == 0) (numB s.data.toList && !intB s.data.toList) (teI s == 0) (stampB s) (keysB K) = true at h
 unfold nodeC at h
 rw [if_neg (by decide),if_neg (by decide),if_neg (by decide),if_neg (by decide),if_neg (by decide),if_neg (by decide),if_pos rfl] at h
 simp only [Bool.and_eq_true,beq_iff_eq] at h
 exact ⟨h.1.1,ba_nil h.1.2,List.eq_nil_of_length_eq_zero (by omega)⟩
theorem six_parts {n : Int} {s : ByteArray} {L : List VT} {K : List ByteArray} {V : List VT} (h : nodeB (.mk 6 n s L K V) = true) : n = 0 ∧ s = ⟨#[]⟩ ∧ L = [] ∧ keysB K = true := by
 change nodeC 6 n (n == 0) s.toList.isEmpty ((L.length : Int) == 0) ((V.length : Int) == 0) (numB s.data.toList && !intB s.data.toList) (teI s == 0) (stampB s) (keysB K) = true at h
 unfold nodeC at h
 rw [if_neg (by decide),if_neg (by decide),if_neg (by decide),if_neg (by decide),if_neg (by decide),if_neg (by decide),if_neg (by decide),if_pos rfl] at h
 simp only [Bool.and_eq_true,beq_iff_eq] at h
 exact ⟨h.1.1.1,ba_nil h.1.1.2,List.eq_nil_of_length_eq_zero (by omega),h.2⟩
theorem nrm_of : ∀ (N : Nat) {T : VT},szT T ≤ N → plainT T = true → wfT T → Nrm T
 | 0,T,h,_,_ => by have := szT_pos T; omega
 | N + 1,T,h,hp,hw => by
  by_cases h5 : T.kd = 5 ∧ 0 < T.ls.length
  ·obtain ⟨k,n,s,L,K,V⟩ := T
   obtain ⟨e,hL⟩ := h5
   simp only [VT.kd,VT.ls] at e hL
   subst e
   have hn : nodeB (.mk 5 n s L K V) = true := by rw [plainT_eq] at hp; simp only [Bool.and_eq_true] at hp; exact hp.1.1
   obtain ⟨rfl,rfl,rfl⟩ := five_parts hn
   have hK := ((wfT_eq _).1 hw).1
   have hK : K = [] := List.eq_nil_of_length_eq_zero hK
   subst hK
   refine .list (by intro e; rw [e] at hL; exact absurd hL (by decide)) (fun t ht => ?_)
   obtain ⟨i,hi⟩ := List.getElem?_of_mem ht
   have h1 := szT_ls (.mk 5 0 ⟨#[]⟩ L [] []) i t hi
   exact nrm_of N (by omega) (plain_ls hp hi) ((wfL_get _).1 ((wfT_eq _).1 hw).2.1 i t hi)
  ·by_cases h6 : T.kd = 6 ∧ 0 < T.vs.length
   ·obtain ⟨k,n,s,L,K,V⟩ := T
    obtain ⟨e,hV⟩ := h6
    simp only [VT.kd,VT.vs] at e hV
    subst e
    have hn : nodeB (.mk 6 n s L K V) = true := by rw [plainT_eq] at hp; simp only [Bool.and_eq_true] at hp; exact hp.1.1
    obtain ⟨rfl,rfl,rfl,hk⟩ := six_parts hn
    have hK : K.length = V.length := ((wfT_eq _).1 hw).1
    refine .map (by intro e; rw [e] at hV; exact absurd hV (by decide)) hK (keys_strict hk) (fun t ht => ?_)
    obtain ⟨i,hi⟩ := List.getElem?_of_mem ht
    have h1 := szT_vs (.mk 6 0 ⟨#[]⟩ [] K V) i t hi
    exact nrm_of N (by omega) (plain_vs hp hi) ((wfL_get _).1 ((wfT_eq _).1 hw).2.2 i t hi)
   ·obtain ⟨a,b⟩ := leaf_bare hp h5 h6
    exact .leaf a b
theorem bad_iff (l : Lvs) : (∀ k,badE l k = 0) ↔ (∀ e ∈ l,partsB e.2 = false) ∧ Pw l := by
 constructor
 ·intro h
  refine ⟨fun e he => ?_,List.pairwise_iff_getElem.2 fun i j hi hj hij => ?_⟩
  ·obtain ⟨k,hk⟩ := List.getElem?_of_mem he
   have := h k
   unfold badE at this
   simp only [hk] at this
   cases hp : partsB e.2 with
   | false => rfl
   | true => rw [if_pos hp] at this; cases this
  ·have := h j
   unfold badE at this
   simp only [List.getElem?_eq_getElem hj] at this
   cases hp : partsB (l[j]).2 with
   | true => rw [if_pos hp] at this; cases this
   | false =>
    rw [if_neg (by rw [hp]; decide)] at this
    cases hc : clP (l[i]).1 (l[j]).1 with
    | false => rfl
    | true =>
     rw [if_pos] at this
     ·cases this
     ·rw [List.any_eq_true]
      exact ⟨l[i],List.mem_of_getElem? (by rw [List.getElem?_take_of_lt hij]; exact List.getElem?_eq_getElem hi),hc⟩
 ·rintro ⟨h1,h2⟩ k
  unfold badE
  cases he : l[k]? with
  | none => rfl
  | some e =>
   have hb := h1 e (List.mem_of_getElem? he)
   have hc : ((l.take k).any fun x => clP x.1 e.1) = false := by
    rw [List.any_eq_false]
    intro x hx
    obtain ⟨j,hj⟩ := List.getElem?_of_mem hx
    have hjk : j < k := by have := lt_of_some hj; rw [List.length_take] at this; omega
    rw [List.getElem?_take_of_lt hjk] at hj
    have := List.pairwise_iff_getElem.1 h2 j k (lt_of_some hj) (lt_of_some he) hjk
    obtain ⟨_,e1⟩ := List.getElem?_eq_some_iff.1 hj
    obtain ⟨_,e2⟩ := List.getElem?_eq_some_iff.1 he
    rw [e1,e2] at this
    rw [this]; decide
   simp only [hb,hc,Bool.false_eq_true,if_false]
theorem gap_mem {l l' : Lvs} (h : ∀ e,e ∈ l ↔ e ∈ l') {k : Nat} (hg : GapAt l' k) : ∃ j,GapAt l j := by
 obtain ⟨e,he,q,s,h1,h2,h3⟩ := hg
 obtain ⟨j,hj⟩ := List.getElem?_of_mem ((h e).2 (List.mem_of_getElem? he))
 refine ⟨j,e,hj,q,s,h1,h2,fun hw => h3 ?_⟩
 rintro a ⟨e1,he1,s1,h4,h5⟩ k hk hka
 obtain ⟨e2,he2,s2,h6,h7⟩ := hw a ⟨e1,(h e1).2 he1,s1,h4,h5⟩ k hk hka
 exact ⟨e2,(h e2).1 he2,s2,h6,h7⟩
theorem bp_perm {l l' : Lvs} {T : VT} (h : BP l 0 0 T) (p : l.Perm l') : BP l' 0 0 T := by
 have hm : ∀ e,e ∈ l ↔ e ∈ l' := fun e => p.mem_iff
 generalize hk : (0 : Int) = k at h
 generalize hi : (0 : Nat) = i at h
 cases h with
 | none h => cases hk
 | bad i h1 h2 => exact absurd hk.symm h2
 | gap _ _ _ _ _ => cases hk
 | great _ _ _ _ => cases hk
 | ok T h0 h1 h2 h3 h4 =>
  obtain ⟨b1,b2⟩ := (bad_iff l).1 h1
  refine .ok T (fun e => h0 (by subst e; exact p.eq_nil)) ((bad_iff l').2 ⟨fun e he => b1 e ((hm e).2 he),(p.pairwise_iff (fun {a b} hab => by rw [clP_comm]; exact hab)).1 b2⟩) (fun k hg => ?_) ⟨h3.1,fun r t hr => (h3.2 r t hr).trans (hm _)⟩ h4
  obtain ⟨j,hj⟩ := gap_mem hm hg
  exact h2 j hj
end Go.Proofs.YteimbjamnfkapaaGreatDoor
/- Plain mathematics of a table: what stands in a row at a column. -/
namespace Go.Proofs.YteimbjamnfkapaaGreatDoor
open Go.RowKit
theorem good_ix {C : List (List PStep)} (h : Good3 C) {i j : Nat} {c : List PStep} (hi : C[i]? = some c) (hj : C[j]? = some c) : i = j := by
 obtain ⟨i1,e1⟩ := List.getElem?_eq_some_iff.1 hi
 obtain ⟨j1,e2⟩ := List.getElem?_eq_some_iff.1 hj
 rcases Nat.lt_trichotomy i j with h1 | h1 | h1
 ·have := (List.pairwise_iff_getElem.1 h.s) _ _ i1 j1 h1
  rw [e1,e2,cp_refl] at this; omega
 ·exact h1
 ·have := (List.pairwise_iff_getElem.1 h.s) _ _ j1 i1 h1
  rw [e1,e2,cp_refl] at this; omega
theorem rowF_out : ∀ (l : List (List PStep × VT)) (C : List (List PStep)) (R : List ByteArray),Good3 C → R.length = C.length → (∀ e ∈ l,e.1 ∈ C) → ∀ (k : Nat) (c : List PStep),C[k]? = some c → (∀ e ∈ l,e.1 ≠ c) → (rowF l C R)[k]? = R[k]?
 | [],_,_,_,_,_,_,_,_,_ => rfl
 | e :: l,C,R,hC,hR,hm,k,c,hk,h => by
  show (rowF l C (R.set (posC C e.1) (cellP e.2)))[k]? = _
  rw [rowF_out l C _ hC (by rw [List.length_set]; exact hR) (fun e' he' => hm e' (by simp [he'])) k c hk (fun e' he' => h e' (by simp [he']))]
  rw [List.getElem?_set_ne (fun hp => ?_)]
  have h1 := pos_in hC (hm e (by simp))
  rw [hp,hk] at h1
  injection h1 with h1
  exact h e (by simp) h1.symm
theorem rowF_in : ∀ (l : List (List PStep × VT)) (C : List (List PStep)) (R : List ByteArray),Good3 C → R.length = C.length → (l.map (·.1)).Nodup → (∀ e ∈ l,e.1 ∈ C) → ∀ (k : Nat) (c : List PStep) (u : VT),C[k]? = some c → (c,u) ∈ l → (rowF l C R)[k]? = some (cellP u)
 | [],_,_,_,_,_,_,_,_,_,_,h => by cases h
 | e :: l,C,R,hC,hR,hn,hm,k,c,u,hk,h => by
  show (rowF l C (R.set (posC C e.1) (cellP e.2)))[k]? = _
  rw [List.map_cons,List.nodup_cons] at hn
  rcases List.mem_cons.1 h with h | h
  ·subst h
   have hp : posC C c = k := good_ix hC (pos_in hC (hm (c,u) (by simp))) hk
   rw [hp]
   have hkl : k < R.length := by have := lt_of_some hk; omega
   rw [rowF_out l C _ hC (by rw [List.length_set]; exact hR) (fun e' he' => hm e' (by simp [he'])) k c hk (fun e' he' h1 => hn.1 (List.mem_map.2 ⟨e',he',h1⟩))]
   exact List.getElem?_set_self hkl
  ·exact rowF_in l C _ hC (by rw [List.length_set]; exact hR) hn.2 (fun e' he' => hm e' (by simp [he'])) k c u hk h
def cellAt (t : VT) (c : List PStep) : ByteArray := match getP t c with
 | some u => if u.ls.length + u.vs.length = 0 then cellP u else ⟨#[]⟩
 | none => ⟨#[]⟩
theorem row_at {T t : VT} (h : mayB 0 1 T = true) (hw : wfT T) {i : Nat} (hi : T.ls[i]? = some t) {k : Nat} {c : List PStep} (hk : (flatC T)[k]? = some c) : (rowM (lfT t []) (flatC T))[k]? = some (cellAt t c) := by
 obtain ⟨h1,h2,h3⟩ := good_sz h
 have hsz := szT_ls T i t hi
 have hpt := plain_ls h3 hi
 have hwt := (wfL_get _).1 ((wfT_eq T).1 hw).2.1 i t hi
 have hG := flat_good h hw
 have hm : ∀ e ∈ lfT t [],e.1 ∈ flatC T := fun e he => (flat_mem h hw).2 ⟨e,List.mem_flatten.2 ⟨_,List.mem_map.2 ⟨t,List.mem_of_getElem? hi,rfl⟩,he⟩,rfl⟩
 have hfc : ∀ s ∈ c,Frm s := hG.f c (List.mem_of_getElem? hk)
 unfold rowM
 by_cases hx : ∃ u,(c,u) ∈ lfT t []
 ·obtain ⟨u,hu⟩ := hx
  rw [rowF_in _ _ _ hG (by simp) (lf_nd _ (Nat.le_refl _) hpt hwt (by omega) _) hm k c u hk hu]
  obtain ⟨r,hr⟩ := lf_get (szT t) (T := t) (Nat.le_refl _) hpt hwt (by omega) _ c u hu
  have e : c = r := by rw [hr.e]; rfl
  unfold cellAt
  rw [e,hr.g]
  simp [hr.b.1,hr.b.2]
 ·rw [rowF_out _ _ _ hG (by simp) hm k c hk (fun e he h4 => hx ⟨e.2,by rw [← h4]; exact he⟩)]
  have hkl := lt_of_some hk
  rw [List.getElem?_replicate,if_pos hkl]
  unfold cellAt
  cases hg : getP t c with
  | none => rfl
  | some u =>
   simp only
   split
   ·rename_i h0
    exfalso
    refine hx ⟨u,?_⟩
    have := get_lf c (T := t) [] u hpt hwt hg ⟨List.eq_nil_of_length_eq_zero (by omega),List.eq_nil_of_length_eq_zero (by omega)⟩ hfc
    simpa using this
   ·rfl
end Go.Proofs.YteimbjamnfkapaaGreatDoor
/- Plain mathematics of a table that a list has written: it is that list, in whatever order its columns stand. -/
namespace Go.Proofs.YteimbjamnfkapaaGreatDoor
open Go.RowKit
theorem c_e9 : cdC ⟨#[]⟩ = 9 := by kernel_rfl
def CelOk (u : VT) : Prop := celB u = true ∧ u.ks.length = u.vs.length ∧ -9223372036854775808 ≤ u.nm ∧ u.nm < 9223372036854775808
theorem cell_back {u : VT} (h : CelOk u) : cdC (cellP u) = 0 ∧ trC (cellP u) = u := by
 have e : celT (cellP u).data.toList = (u,0) := by
  unfold cellP
  rw [if_pos h.1,mkS_list]
  exact cel_back h.1 h.2.1 h.2.2
 unfold cdC trC
 rw [e]
 exact ⟨rfl,rfl⟩
theorem cell_in {t : VT} (hN : Nrm t) {c : List PStep} {u : VT} (hc : AllCn c) (h : (c,u) ∈ lfT t []) : cellAt t c = cellP u := by
 have := ((lf_tree hN).2 c u hc).2 h
 unfold cellAt
 rw [this.1]
 simp [this.2.1,this.2.2]
theorem cell_out {t : VT} (hN : Nrm t) {c : List PStep} (hc : AllCn c) (h : ∀ u,(c,u) ∉ lfT t []) : cellAt t c = ⟨#[]⟩ := by
 unfold cellAt
 cases hg : getP t c with
 | none => rfl
 | some u =>
  simp only
  split
  ·rename_i h0
   exact absurd (((lf_tree hN).2 c u hc).1 ⟨hg,List.eq_nil_of_length_eq_zero (by omega),List.eq_nil_of_length_eq_zero (by omega)⟩) (h u)
  ·rfl
theorem lfU_is {t : VT} (hN : Nrm t) {C : List (List PStep)} {R : List ByteArray} (hcn : ∀ p ∈ C,AllCn p) (hR : ∀ (k : Nat) (c : List PStep),C[k]? = some c → R[k]? = some (cellAt t c)) (hq : ∀ z ∈ lfT t [],CelOk z.2) (k : Nat) (z : List PStep × VT) : lfU C R k = some z ↔ C[k]? = some z.1 ∧ z ∈ lfT t [] := by
 unfold lfU
 cases hk : C[k]? with
 | none => simp
 | some p =>
  rw [hR k p hk]
  have hp := hcn p (List.mem_of_getElem? hk)
  by_cases hx : ∃ u,(p,u) ∈ lfT t []
  ·obtain ⟨u,hu⟩ := hx
   obtain ⟨c1,c2⟩ := cell_back (hq _ hu)
   simp only [cell_in hN hp hu,c1,c2,show ¬ (0 : Int) = 9 by decide,if_false,Option.some.injEq]
   constructor
   ·rintro rfl; exact ⟨rfl,hu⟩
   ·rintro ⟨h1,h2⟩
    obtain ⟨z1,z2⟩ := z
    simp only at h1
    subst h1
    have e1 := ((lf_tree hN).2 p u hp).2 hu
    have e2 := ((lf_tree hN).2 p z2 hp).2 h2
    have := e1.1.symm.trans e2.1
    injection this with this
    rw [this]
  ·have he := cell_out hN hp (fun u hu => hx ⟨u,hu⟩)
   simp only [he,c_e9,if_true]
   constructor
   ·intro h; cases h
   ·rintro ⟨h1,h2⟩
    injection h1 with h1
    exact absurd ⟨z.2,by rw [h1]; exact h2⟩ hx
theorem row_perm {t : VT} (hN : Nrm t) (hnd : (lfT t []).Nodup) {C : List (List PStep)} {R : List ByteArray} (hC : C.Nodup) (hcn : ∀ p ∈ C,AllCn p) (hlen : R.length = C.length) (hR : ∀ (k : Nat) (c : List PStep),C[k]? = some c → R[k]? = some (cellAt t c)) (hall : ∀ e ∈ lfT t [],e.1 ∈ C) (hq : ∀ z ∈ lfT t [],CelOk z.2) : (lfT t []).Perm (lvU C R R.length) ∧ ∀ k,badC R k = 0 := by
 have hL := lfU_is hN hcn hR hq
 constructor
 ·have h2 : (lvU C R R.length).Nodup := by
   unfold lvU
   refine List.Pairwise.filterMap (R := fun a b => a ≠ b) _ (fun a a' haa b h1 b' h2 => ?_) List.nodup_range
   rintro rfl
   have e1 := ((hL a b).1 h1).1
   have e2 := ((hL a' b).1 h2).1
   exact haa ((List.getElem?_inj (lt_of_some e1) hC).1 (e1.trans e2.symm))
  refine (List.perm_ext_iff_of_nodup hnd h2).2 (fun z => ?_)
  unfold lvU
  rw [List.mem_filterMap]
  constructor
  ·intro hz
   obtain ⟨k,hk⟩ := List.getElem?_of_mem (hall z hz)
   exact ⟨k,List.mem_range.2 (by have := lt_of_some hk; omega),(hL k z).2 ⟨hk,hz⟩⟩
  ·rintro ⟨k,-,hk⟩
   exact ((hL k z).1 hk).2
 ·intro k
  unfold badC
  cases hk : R[k]? with
  | none => rfl
  | some c =>
   obtain ⟨p,hp⟩ : ∃ p,C[k]? = some p := ⟨_,List.getElem?_eq_getElem (by have := lt_of_some hk; omega)⟩
   rw [hR k p hp] at hk
   injection hk with hk
   subst hk
   have hpc := hcn p (List.mem_of_getElem? hp)
   by_cases hx : ∃ u,(p,u) ∈ lfT t []
   ·obtain ⟨u,hu⟩ := hx
    simp only [cell_in hN hpc hu,(cell_back (hq _ hu)).1]
    rfl
   ·simp only [cell_out hN hpc (fun u hu => hx ⟨u,hu⟩),c_e9]
    rfl
theorem row_mp {t : VT} (hN : Nrm t) (hnd : (lfT t []).Nodup) {C : List (List PStep)} {R : List ByteArray} (hC : C.Nodup) (hcn : ∀ p ∈ C,AllCn p) (hlen : R.length = C.length) (hR : ∀ (k : Nat) (c : List PStep),C[k]? = some c → R[k]? = some (cellAt t c)) (hall : ∀ e ∈ lfT t [],e.1 ∈ C) (hq : ∀ z ∈ lfT t [],CelOk z.2) (hm : mayB 0 1 t = true) (h6 : t.kd = 6) : MP C R 0 0 t := by
 obtain ⟨h1,h2⟩ := row_perm hN hnd hC hcn hlen hR hall hq
 have hb := bp_perm (lf_build hN hm) h1
 refine .ok t h2 (fun e => ?_) hb h6
 rw [e] at hb
 generalize hk : (0 : Int) = k at hb
 cases hb with
 | none h => cases hk
 | bad i h1 h2 => exact h2 (by rw [bad_nil rfl])
 | gap i h0 _ _ _ => exact h0 rfl
 | great h0 _ _ _ => exact h0 rfl
 | ok T h0 _ _ _ _ => exact h0 rfl
end Go.Proofs.YteimbjamnfkapaaGreatDoor
/- Plain mathematics: the table of a list, with its columns in any order, is that list. -/
namespace Go.Proofs.YteimbjamnfkapaaGreatDoor
open Go.RowKit
theorem nm_prs {p : List PStep} (h : 47 :: (nmP p).data.toList = textP p) (hf : FrmP p) : prsN (nmP p) = some p := by
 unfold prsN
 rw [h]
 exact parse_text hf
theorem cp_names {C : List (List PStep)} (hC : C.Nodup) (h : ∀ p ∈ C,prsN (nmP p) = some p) : CP (C.map nmP) 0 0 C := by
 refine .ok _ (fun k => ?_) ?_
 ·unfold badN
  cases hk : (C.map nmP)[k]? with
  | none => rfl
  | some c =>
   rw [List.getElem?_map] at hk
   obtain ⟨p,hp,rfl⟩ := Option.map_eq_some_iff.1 hk
   have h1 := h p (List.mem_of_getElem? hp)
   have h2 : hasN ((C.map nmP).take k) (nmP p) = false := by
    cases h2 : hasN ((C.map nmP).take k) (nmP p) with
    | false => rfl
    | true =>
     have h3 := hasN_iff.1 h2
     obtain ⟨j,hj⟩ := List.getElem?_of_mem h3
     have h4 : j < k := by have := lt_of_some hj; rw [List.length_take] at this; omega
     rw [List.getElem?_take_of_lt h4,List.getElem?_map] at hj
     obtain ⟨q,hq,e⟩ := Option.map_eq_some_iff.1 hj
     have h5 := h q (List.mem_of_getElem? hq)
     rw [e,h1] at h5
     injection h5 with h5
     subst h5
     have := (List.getElem?_inj (lt_of_some hq) hC).1 (hq.trans hp.symm)
     omega
   simp only [h1,h2,Bool.false_eq_true,if_false]
 ·rw [List.map_map]
  apply List.map_congr_left
  intro p hp
  exact h p hp
theorem may_ls {T t : VT} (h : mayB 0 1 T = true) {i : Nat} (hi : T.ls[i]? = some t) : mayB 0 1 t = true := by
 obtain ⟨h1,h2,h3⟩ := good_sz h
 have hsz := szT_ls T i t hi
 have hh := hg_ls T
 have hht := (hgL_get T.ls _).1 (Nat.le_refl _) i t hi
 unfold mayB
 simp only [Bool.and_eq_true,decide_eq_true_eq]
 exact ⟨⟨by omega,by omega⟩,plain_ls h3 hi⟩
theorem up_back {T : VT} (hl : lomB T = true) (hw : wfT T) (hq : ∀ t ∈ T.ls,∀ z ∈ lfT t [],CelOk z.2) {C : List (List PStep)} (hC : C.Nodup) (hmem : ∀ p,p ∈ C ↔ p ∈ flatC T) {Rs : List (List ByteArray)} (hrl : Rs.length = T.ls.length)
  (hR : ∀ (i : Nat) (R : List ByteArray) (t : VT),Rs[i]? = some R → T.ls[i]? = some t → R.length = C.length ∧ ∀ (k : Nat) (c : List PStep),C[k]? = some c → R[k]? = some (cellAt t c)) : UP (C.map nmP) Rs 0 0 0 T := by
 have hl0 := hl
 obtain ⟨h5,hm,hk6⟩ := lom_parts hl
 obtain ⟨g1,g2,g3⟩ := good_sz hm
 have hG := flat_good hm hw
 have hname : ∀ p ∈ C,prsN (nmP p) = some p ∧ FrmP p := fun p hp => by
  obtain ⟨a,b⟩ := col_name hl0 hw ((hmem p).1 hp)
  exact ⟨nm_prs a b,b⟩
 have hcn : ∀ p ∈ C,AllCn p := fun p hp s hs => Cn.of ((hname p hp).2 s hs)
 have hne : T.ls ≠ [] := by
  unfold lomB at hl0
  simp only [Bool.and_eq_true,Bool.not_eq_true',List.isEmpty_eq_false_iff] at hl0
  exact hl0.1.1.2
 have hmp : ∀ (i : Nat) (R : List ByteArray),Rs[i]? = some R → ∃ t,T.ls[i]? = some t ∧ MP C R 0 0 t := fun i R hi => by
  obtain ⟨t,ht⟩ : ∃ t,T.ls[i]? = some t := ⟨_,List.getElem?_eq_getElem (by have := lt_of_some hi; omega)⟩
  have hsz := szT_ls T i t ht
  have hpt := plain_ls g3 ht
  have hwt := (wfL_get _).1 ((wfT_eq T).1 hw).2.1 i t ht
  obtain ⟨r1,r2⟩ := hR i R t hi ht
  have hnd := lf_nd (szT t) (T := t) (Nat.le_refl _) hpt hwt (by omega) []
  exact ⟨t,ht,row_mp (nrm_of (szT t) (Nat.le_refl _) hpt hwt) (List.Pairwise.of_map (S := fun a b => a ≠ b) (·.1) (fun a b h e => h (by rw [e])) hnd) hC hcn r1 r2 (fun e he => (hmem _).2 ((flat_mem hm hw).2 ⟨e,List.mem_flatten.2 ⟨_,List.mem_map.2 ⟨t,List.mem_of_getElem? ht,rfl⟩,he⟩,rfl⟩)) (hq t (List.mem_of_getElem? ht)) (may_ls hm ht) (hk6 t (List.mem_of_getElem? ht)).1⟩
 have hlen : ∀ R ∈ Rs,R.length = (C.map nmP).length := fun R hR' => by
  obtain ⟨i,hi⟩ := List.getElem?_of_mem hR'
  obtain ⟨t,ht,-⟩ := hmp i R hi
  rw [List.length_map]
  exact (hR i R t hi ht).1
 obtain ⟨k,n,s,L,K,V⟩ := T
 have h5 : k = 5 := h5
 subst h5
 have hn : nodeB (.mk 5 n s L K V) = true := by rw [plainT_eq] at g3; simp only [Bool.and_eq_true] at g3; exact g3.1.1
 obtain ⟨rfl,rfl,rfl⟩ := five_parts hn
 have hK : K = [] := List.eq_nil_of_length_eq_zero ((wfT_eq _).1 hw).1
 subst hK
 exact .ok C L (cp_names hC (fun p hp => (hname p hp).1)) hlen (fun e => hne (by subst e; exact List.eq_nil_of_length_eq_zero hrl.symm)) hrl.symm hmp hm
theorem flat_back {T : VT} (hw : wfT T) (he : flatE T = 0) (hq : ∀ t ∈ T.ls,∀ z ∈ lfT t [],CelOk z.2) : UP (flatH T) (flatR T) 0 0 0 T := by
 have hl : lomB T = true := by
  cases h : lomB T with
  | true => rfl
  | false => unfold flatE at he; rw [if_pos h] at he; cases he
 obtain ⟨-,hm,-⟩ := lom_parts hl
 have hG := flat_good hm hw
 unfold flatH flatR
 rw [if_pos he,if_pos he]
 refine up_back hl hw hq ?_ (fun p => Iff.rfl) (by unfold flatW flatX; simp) (fun i R t hi ht => ?_)
 ·refine hG.s.imp (fun {a b} h e => ?_)
  subst e
  rw [cp_refl] at h; cases h
 ·unfold flatW flatX at hi
  rw [List.map_map,List.getElem?_map,ht] at hi
  simp only [Option.map_some,Option.some.injEq,Function.comp] at hi
  subst hi
  exact ⟨rowM_len _ _,fun k c hc => row_at hm hw ht hc⟩
end Go.Proofs.YteimbjamnfkapaaGreatDoor
/- Plain mathematics of names: how long what is read is. -/
namespace Go.Proofs.YteimbjamnfkapaaGreatDoor
open Go.RowKit
theorem esc_ge (k : List UInt8) : k.length ≤ (esc k).length := by
 unfold esc
 induction k with
 | nil => simp
 | cons b l ih =>
  rw [List.flatMap_cons,List.length_append,List.length_cons]
  have : 1 ≤ (escB b).length := by
   unfold escB
   repeat' split
   all_goals simp
  omega
theorem keyT_ge (k : List UInt8) : k.length ≤ (keyT k).length := by
 unfold keyT
 have := esc_ge k
 split
 ·rw [List.length_append]; omega
 ·exact this
theorem textP_cnt : ∀ (p : List PStep),p.length ≤ (textP p).length
 | [] => Nat.zero_le _
 | s :: p => by
  have := textP_cnt p
  unfold textP at this ⊢
  rw [List.flatMap_cons,List.length_append,List.length_cons,List.length_cons]
  omega
theorem textP_at : ∀ (p : List PStep) (s : PStep),s ∈ p → (stepT s).length + 1 ≤ (textP p).length
 | [],s,h => by simp at h
 | a :: p,s,h => by
  unfold textP
  rw [List.flatMap_cons,List.length_append,List.length_cons]
  rcases List.mem_cons.1 h with rfl | h
  ·omega
  ·have := textP_at p s h
   unfold textP at this
   omega
theorem prs_small {c : ByteArray} {p : List PStep} (h : prsN c = some p) (hc : c.size ≤ 999000) : p.length ≤ c.size + 1 ∧ ∀ s ∈ p,OkS s := by
 obtain ⟨h1,h2⟩ := parse_sound h
 have hl : (textP p).length = c.size + 1 := by rw [h1,List.length_cons]; rfl
 refine ⟨by have := textP_cnt p; omega,fun s hs => ?_⟩
 have h3 := textP_at p s hs
 rcases h2 s hs with ⟨-,b,d,e⟩ | ⟨a,b⟩
 ·refine ⟨by rw [b]; decide,by omega,by omega⟩
 ·have h4 : stepT s = keyT s.key.data.toList := by unfold stepT; rw [if_neg (by rw [a]; decide)]
  have h5 := keyT_ge s.key.data.toList
  rw [h4] at h3
  have h6 : s.key.data.toList.length = s.key.size := rfl
  exact ⟨by omega,by omega,by omega⟩
end Go.Proofs.YteimbjamnfkapaaGreatDoor
/- UnflatBack, walked (under way). -/
namespace Go.Proofs.YteimbjamnfkapaaGreatDoor
open Go.RowKit
theorem inlf_own {w' : World} {B : Nat} {v : Value} {E : List LE} (h : w'.ownsRow B 43 6 v E.length (E.flatMap lcE)) (hE : ∀ e ∈ E,InP w' e.p e.u ∧ HV w' e.T e.x e.y) : InLf w' (E.map LE.pt) v := by
 have hc := h
 rcases hc with ⟨-,⟨rfl,h0⟩ | ⟨g,cap,cur,rfl,-,-,hn,hcm,-,-⟩⟩
 ·have : E = [] := List.eq_nil_of_length_eq_zero h0
  subst this
  exact ⟨⟨0,0,none⟩,⟨none,0,rfl,Nat.le_refl _,Nat.zero_le _,fun h => absurd h (by simp)⟩,fun i s h => by simp at h⟩
 have key : ∀ (i : Nat) (e : LE),E[i]? = some e → ∀ (c : Nat) (u : Value),(lcE e)[c]? = some u → w'.cell? ⟨g,i * 6 + c,none⟩ = some u := by
  intro i e he c u hu
  have hi := lt_of_some he
  have hc : c < 6 := lt_of_some hu
  have h' : w'.ownsRow B 43 6 (.slice (some ⟨g,0,none⟩) E.length cap) E.length (E.flatMap lcE) := h
  rw [h'.cellAt (i * 6 + c) (by omega),flat_at lcE 6 (fun _ => rfl) E i c e he hc]
  exact hu
 refine ⟨⟨g,0,none⟩,⟨_,cap,by rw [List.length_map],by simpa using hn,hcm,fun _ => rfl⟩,fun i e' he' => ?_⟩
 rw [List.getElem?_map] at he'
 obtain ⟨e,he,rfl⟩ := Option.map_eq_some_iff.1 he'
 have hm := List.mem_of_getElem? he
 obtain ⟨h1,h2⟩ := hE e hm
 refine ⟨e.u,e.x,e.y,?_,?_,h1,h2⟩
 ·rw [add_at]; exact key i e he 0 _ rfl
 ·rw [add_at]
  exact ⟨key i e he 1 _ rfl,key i e he 2 _ rfl,key i e he 3 _ rfl,key i e he 4 _ rfl,key i e he 5 _ rfl⟩
theorem catL (base : Nat) (X : World) (v : Value) (E : List LE) (n : Nat) (hn : E.length = n) (hown : X.ownsRow base 43 6 v n (E.flatMap lcE)) (nb : Nat) (e : LE) (h0 : e.u.oneCell' = true) (h1 : e.x.oneCell' = true) (h2 : e.y.oneCell' = true) (hc : ∀ (i : Nat) (u : Value),(lcE e)[i]? = some u → X.cell? ⟨nb,i,none⟩ = some u) (hb : base ≤ X.heap.size) (hl : n ≤ 100000) :
  ∃ g cap Y,(Builtin.append_ #[38,38] 38 #[v,.slice (some ⟨nb,0,none⟩) 1 1]).run Tryz.prog X = .ok (.slice (some ⟨g,0,none⟩) (n + 1) cap) Y ∧ Y.ownsRow base 43 6 (.slice (some ⟨g,0,none⟩) (n + 1) cap) (n + 1) (E.flatMap lcE ++ lcE e) ∧ (∀ W0 : World,W0.heap.size = base → Below base W0 X → Below base W0 Y) := by
 obtain ⟨i1,hi',hz0',hz1',hz2'⟩ := info_parts Tryz.infoLeaf
 obtain ⟨g,cp,Y,hr,h2',h3,h4,h5⟩ := run_append_lies (P := Tryz.prog) X 38 38 base 43 i1 (.agg #[.slice none 0 0,.int .i64 0,.int .i64 0,.string ⟨#[]⟩,.slice none 0 0,.slice none 0 0]) 6 104 Tryz.underlying38 hi' hz0' hz1' hz2' rfl (by decide) v n _ hown ⟨nb,0,none⟩ 1 1 (lcE e) rfl (fun j u hj => by
  rw [add_at]; exact hc j u hj) (fun u hu => by
  simp only [lcE,List.mem_cons,List.not_mem_nil,or_false] at hu
  rcases hu with rfl | rfl | rfl | rfl | rfl | rfl
  ·exact h0
  ·rfl
  ·rfl
  ·rfl
  ·exact h1
  ·exact h2) (by decide) (by unfold maxLen; omega) (by omega) hb X.heap.size rfl
 exact ⟨g,cp,Y,hr,h2',fun W0 hW0 hB => by subst hW0; exact hB.grown h3 hb (fun q hq => (hown.lt q hq).1)⟩
theorem hv_get : ∀ (p : List PStep) {w : World} {T u : VT} {x y : Value},HV w T x y → getP T p = some u → ∃ x' y',HV w u x' y'
 | [],w,T,u,x,y,h,hu => by simp only [getP,Option.some.injEq] at hu; subst hu; exact ⟨x,y,h⟩
 | s :: p,w,T,u,x,y,h,hu => by
  obtain ⟨t,ht,hg⟩ := get_kid hu
  obtain ⟨al,bl,f,g,p',q,oL,oM,cL,cM,-,-,-,-,-,-,-,-,-,-,-,-,-,rL,rM,-,-⟩ := h.parts
  rcases ht with ⟨i,hi⟩ | ⟨i,hi⟩
  ·exact hv_get p (rL i t hi) hg
  ·exact hv_get p (rM i t hi) hg
theorem hv_nwfR {w : World} {T : VT} {x y : Value} (h : HV w T x y) : (Lit.int .i64 T.nm).wf = true := by
 obtain ⟨_,_,_,_,_,_,_,_,_,_,-,-,-,-,-,-,-,-,-,-,-,-,-,-,-,-,h⟩ := h.parts
 exact h
theorem leaf_ok {w : World} {t : VT} {x y : Value} (hv : HV w t x y) (hp : plainT t = true) (hw : wfT t) (hz : szT t ≤ 1000000000) : ∀ z ∈ lfT t [],CelOk z.2 := fun z hzm => by
 obtain ⟨r,hr⟩ := lf_get (szT t) (T := t) (Nat.le_refl _) hp hw hz [] z.1 z.2 hzm
 obtain ⟨x',y',hu⟩ := hv_get r hv hr.g
 obtain ⟨_,_,_,_,_,_,_,_,_,_,-,-,-,-,-,-,hK,-⟩ := hu.parts
 have := nwf_bd (hv_nwfR hu)
 exact ⟨leaf_cel hr.b hr.pl,hK,this⟩
theorem lists_ok {w : World} {T : VT} {x y : Value} (hv : HV w T x y) (hm : mayB 0 1 T = true) (hw : wfT T) : ∀ t ∈ T.ls,∀ z ∈ lfT t [],CelOk z.2 := fun t ht => by
 obtain ⟨i,hi⟩ := List.getElem?_of_mem ht
 obtain ⟨h1,h2,h3⟩ := good_sz hm
 have hsz := szT_ls T i t hi
 obtain ⟨al,bl,f,g,p',q,oL,oM,cL,cM,-,-,-,-,-,-,-,-,-,-,-,-,-,rL,-⟩ := hv.parts
 exact leaf_ok (rL i t hi) (plain_ls h3 hi) ((wfL_get _).1 ((wfT_eq T).1 hw).2.1 i t hi) (by omega)
theorem build_lf {T : VT} (hm : mayB 0 1 T = true) (hw : wfT T) {l : Lvs} (p : (lfT T []).Perm l) (v : Value) (X : World) (hl : InLf X l v) (hg : GlobF X) :
  Calls Tryz.prog 20 #[v] X fun e w' => ∃ x y,e = .returned (.tuple #[vv T x y,.int .i64 0,.int .i64 ((0 : Nat) : Int)]) ∧ HV w' T x y ∧ Below X.heap.size X w' := by
 obtain ⟨h1,h2,h3⟩ := good_sz hm
 have hlf : ∀ e ∈ l,AllCn e.1 ∧ (∀ s ∈ e.1,OkS s) ∧ e.1.length ≤ 1000 := fun e he => by
  obtain ⟨r,hr⟩ := lf_get (szT T) (T := T) (Nat.le_refl _) h3 hw (by omega) [] e.1 e.2 (p.mem_iff.2 he)
  have e1 : e.1 = r := by rw [hr.e]; rfl
  have h4 := hr.h
  rw [e1]
  refine ⟨fun s hs => Cn.of (hr.f s hs).1,fun s hs => ?_,by omega⟩
  obtain ⟨a1,a2⟩ := hr.f s hs
  refine ⟨by omega,?_⟩
  rcases a1 with ⟨-,-,b1,b2⟩ | ⟨-,b1⟩
  ·omega
  ·omega
 refine (build_any l v X hl hg.1.1 (fun e he => (hlf e he).1) (fun e he => (hlf e he).2.1) (by have := p.length_eq; have := lfT_len T []; omega) (fun e he => (hlf e he).2.2)).mono ?_
 rintro e w' ⟨T',x,y,k',i',rfl,hu,hv,hb2⟩
 obtain ⟨rfl,rfl,rfl⟩ := hu.one (bp_perm (lf_build (nrm_of _ (Nat.le_refl _) h3 hw) hm) p)
 exact ⟨x,y,rfl,hv.hv,hb2⟩
theorem unflat_of {T : VT} (hw : wfT T) (he : flatE T = 0) (hq : ∀ t ∈ T.ls,∀ z ∈ lfT t [],CelOk z.2) (kv rv : Value) (X : World) (hK : InS X (flatH T) kv) (hR : InRs X (flatR T) rv) (hg : GlobF X) :
  Calls Tryz.prog 14 #[.agg #[kv,rv]] X fun e w' => ∃ x y,e = .returned (.tuple #[vv T x y,.int .i64 0,.int .i64 ((0 : Nat) : Int),.int .i64 ((0 : Nat) : Int)]) ∧ HV w' T x y ∧ Below X.heap.size X w' := by
 have hl : lomB T = true := by
  cases h : lomB T with
  | true => rfl
  | false => unfold flatE at he; rw [if_pos h] at he; cases he
 have hL : flatL T = false ∧ (flatC T).length ≤ 64 ∧ T.ls.length ≤ 512 := by
  unfold flatE at he
  rw [if_neg (by rw [hl]; decide)] at he
  by_cases h1 : 512 < T.ls.length
  ·rw [if_pos h1] at he; cases he
  rw [if_neg h1] at he
  by_cases h2 : 64 < (flatC T).length
  ·rw [if_pos h2] at he; cases he
  rw [if_neg h2] at he
  cases h3 : flatL T with
  | true => rw [if_pos h3] at he; cases he
  | false => exact ⟨rfl,by omega,by omega⟩
 obtain ⟨hL,hC,hn⟩ := hL
 unfold flatL at hL
 rw [Bool.or_eq_false_iff] at hL
 have h1 : ∀ c ∈ flatH T,c.size ≤ 4096 := fun c hc => by
  unfold flatH at hc
  rw [if_pos he] at hc
  have := List.any_eq_false.1 hL.1 c hc
  unfold longS at this
  simpa using this
 have h2 : ∀ R ∈ flatR T,∀ c ∈ R,c.size ≤ 4096 := fun R hR' c hc => by
  unfold flatR at hR'
  rw [if_pos he] at hR'
  have := List.any_eq_false.1 hL.2 R hR'
  unfold longR at this
  have := List.any_eq_false.1 (by simpa using this) c hc
  unfold longS at this
  simpa using this
 have h3 : (flatH T).length ≤ 64 := by unfold flatH flatN; rw [if_pos he,List.length_map]; exact hC
 have h4 : (flatR T).length ≤ 512 := by unfold flatR flatW flatX; rw [if_pos he,List.length_map,List.length_map]; exact hn
 refine unflat_is (flat_back hw he hq) kv rv X hK hR hg (by omega) (fun c hc => by have := h1 c hc; omega) (by omega) (fun R hR' c hc => by have := h2 R hR' c hc; omega) (fun c hc p hp => ?_)
 refine ⟨?_,(prs_small hp (by have := h1 c hc; omega)).2⟩
 unfold flatH flatN at hc
 rw [if_pos he] at hc
 obtain ⟨q,hq',rfl⟩ := List.mem_map.1 hc
 obtain ⟨a,b⟩ := col_name hl hw hq'
 rw [nm_prs a b] at hp
 injection hp with hp
 subst hp
 obtain ⟨-,hm,-⟩ := lom_parts hl
 obtain ⟨e,he',rfl⟩ := (flat_mem hm hw).1 hq'
 obtain ⟨l,hl1,hl2⟩ := List.mem_flatten.1 he'
 obtain ⟨t,ht,rfl⟩ := List.mem_map.1 hl1
 obtain ⟨i,hi⟩ := List.getElem?_of_mem ht
 obtain ⟨r,hr,-,-,h5,-⟩ := lf_good hm hw hi e hl2
 omega
set_option maxRecDepth 100000 in
set_option maxHeartbeats 1000000 in
theorem Tryz.unflatBack_walk (T : VT) (x y : Value) (w : World) (hg : GlobF w) (hT : HV w T x y) :
  Calls Tryz.prog 5 #[vv T x y] w fun e w' => e = .returned (.bool true) ∧ Below w.heap.size w w' := by
 have hwf := hv_wfT (szT T) (Nat.le_refl _) hT
 have CA := hid (fun X (hX : Below w.heap.size w X) => awake17 X (hg.on hX))
 have CH := hid (fun X (hX : Below w.heap.size w X) => heavy_any T x y 150 32 X (hT.onto hX) (by omega) (by omega))
 have CV := hid (fun X (hX : Below w.heap.size w X) => rvalue_any T x y X (hT.onto hX))
 have CF := hid (fun X (hX : Below w.heap.size w X) => flat_tab T x y X (hT.onto hX) (hg.on hX))
 have CL := hid (fun X (hX : Below w.heap.size w X) (hm : mayB 0 1 T = true) => leaves_in T x y X (hT.onto hX) hm)
 have HT0 := hid hT
 have HGX := hid hg
 obtain ⟨al,bl,f,g,p,q,oL,oM,cL,cM,rfl,rfl,-,-,hL3,hM3,hK,-,hlL,hlM,kL,kK,kM,rL,rM,-,-⟩ := hT.parts
 have hal : Below w.heap.size w (w.alloc (.cells #[.int .i64 T.kd,.int .i64 T.nm,.string T.st,.slice oL T.ls.length cL,.slice oM T.vs.length cM] 29)) := valloc_bel (Below.refl _ _) _
 have hcs : Cs (w.alloc (.cells #[.int .i64 T.kd,.int .i64 T.nm,.string T.st,.slice oL T.ls.length cL,.slice oM T.vs.length cM] 29)) w.heap.size [.int .i64 T.kd,.int .i64 T.nm,.string T.st,.slice oL T.ls.length cL,.slice oM T.vs.length cM] := fun i v h => cells_in rfl rfl (by simpa using h)
 simp only [vv] at CH CV CF CL ⊢
 have HkL := hid kL; have HrL := hid rL
 have HWF := hid hwf
 obtain ⟨F0,hF0⟩ : ∃ b,(!fitB T 32 150) = b := ⟨_,rfl⟩
 obtain ⟨M0,hM0⟩ : ∃ b,mayB 0 1 T = b := ⟨_,rfl⟩
 rw [hF0] at CH
 rw [hM0] at CV
 have HM0 := hid hM0
 obtain ⟨KD,hKD⟩ : ∃ k,T.kd = k := ⟨_,rfl⟩
 have HKD := hid hKD
 rw [hKD] at CH CV CF CL hal hcs ⊢
 clear hT hg kL kK kM rL rM hK hM3 hwf hF0 hM0 hKD
 go_enter Tryz.func5,Tryz.ntmps5
 go_upto_region 1 with fail
 refine cewp_gen ?_
 intro W hW
 rw [← hW] at hal hcs
 have HB0 := hid hal
 clear hW hal
 go_wp2_with fail
 go_at_call 13
 refine (CA.out _ HB0.out).mono ?_
 rintro e w1 ⟨rfl,hb1⟩
 have hcs1 := hcs.onto hb1
 have g0 := hcs1 0 _ rfl
 have g1 := hcs1 1 _ rfl
 have g2 := hcs1 2 _ rfl
 have g3 := hcs1 3 _ rfl
 have g4 := hcs1 4 _ rfl
 have HB1 := hid (vonto HB0.out hb1)
 clear hb1 hcs CA HB0 hcs1
 go_wp2_with fail
 go_at_call 18
 refine (CH.out _ HB1.out).mono ?_
 rintro e w2 ⟨rfl,hb2⟩
 have g0 := keepCell hb2 g0
 have g1 := keepCell hb2 g1
 have g2 := keepCell hb2 g2
 have g3 := keepCell hb2 g3
 have g4 := keepCell hb2 g4
 have HB2 := hid (vonto HB1.out hb2)
 clear hb2 CH HB1
 cases F0 with
 | true =>
  go_wp2_with fail
  go_ret
  exact ⟨rfl,HB2.out⟩
 | false =>
 go_wp2_with fail
 go_at_call 22
 refine (CV.out _ HB2.out).mono ?_
 rintro e w3 ⟨rfl,hb3⟩
 have g0 := keepCell hb3 g0
 have g1 := keepCell hb3 g1
 have g2 := keepCell hb3 g2
 have g3 := keepCell hb3 g3
 have g4 := keepCell hb3 g4
 have HB3 := hid (vonto HB2.out hb3)
 clear hb3 CV HB2
 cases M0 with
 | false =>
  go_wp2_with fail
  go_ret
  exact ⟨rfl,HB3.out⟩
 | true =>
 go_wp2_with fail
 go_at_call 23
 refine (CL.out _ HB3.out HM0.out).mono ?_
 rintro e w4 ⟨lv,rfl,hl,hb4⟩
 have g0 := keepCell hb4 g0
 have g1 := keepCell hb4 g1
 have g2 := keepCell hb4 g2
 have g3 := keepCell hb4 g3
 have g4 := keepCell hb4 g4
 have HB4 := hid (vonto HB3.out hb4)
 clear hb4 CL HB3
 obtain ⟨ol,cl,rfl⟩ := inlf_sl hl
 have HLF := hid hl
 have hln : (lfT T []).length ≤ 4096 := by have := lfT_len T []; have := (good_sz HM0.out).1; omega
 obtain ⟨n,hn⟩ : ∃ n,(lfT T []).length = n := ⟨_,rfl⟩
 rw [hn] at hln ⊢
 have HN := hid hn
 clear hl hn
 go_wp2_with fail
 go_loopw [4,5] (fun mv i wr => ∃ (j : Nat) (E : List LE),i = .int .i64 ((n : Int) - 1 - j) ∧ j ≤ n ∧ Hid (wr.ownsRow w4.heap.size 43 6 mv j (E.flatMap lcE)) ∧ Hid (Below w4.heap.size w4 wr) ∧ Hid (E.length = j) ∧ Hid (E.map LE.pt = (lfT T []).reverse.take j) ∧ Hid (∀ e ∈ E,InP w4 e.p e.u ∧ HV w4 e.T e.x e.y)) (fun _ i _ => (intOf i + 1).toNat)
 case atStart => exact ⟨0,[],by simp,Nat.zero_le _,hid (World.ownsRow_nil _ _ _ _),hid (Below.refl _ _),hid rfl,hid (by simp),hid (fun e h => by cases h)⟩
 case round =>
  obtain ⟨j,E,rfl,hj,HO,HBR,HEL,HEM,HEI⟩ := hrel
  by_cases hlt : j < n
  ·obtain ⟨k,hk⟩ : ∃ k,k = n - 1 - j := ⟨_,rfl⟩
   have hkn : k < n := by omega
   have hik : (n : Int) - 1 - (j : Int) = (k : Int) := by omega
   rw [hik]
   obtain ⟨e,he⟩ : ∃ e,(lfT T [])[k]? = some e := ⟨(lfT T [])[k]'(by rw [HN.out]; exact hkn),List.getElem?_eq_getElem _⟩
   have HRV := hid (show (lfT T []).reverse.take (j + 1) = (lfT T []).reverse.take j ++ [e] by
    rw [List.take_add_one,List.getElem?_reverse (by rw [HN.out]; exact hlt),HN.out,← hk,he]; rfl)
   have hf := HLF.out
   rw [HN.out] at hf
   obtain ⟨a,u,xe,ye,rfl,hc,hnd,hip,hhv⟩ := inlf_at hf he
   obtain ⟨ou,cu,rfl⟩ := inp_slice hip
   obtain ⟨o1,n1,c1,o2,n2,c2,rfl,rfl⟩ := hv_slices hhv
   have HIP := hid hip
   have HHV := hid hhv
   have hc := keepCell HBR.out hc
   obtain ⟨d0,d1,d2,d3,d4⟩ := hnd.onto HBR.out
   obtain ⟨om,cm,rfl⟩ := own_slice HO.out
   clear hf he hip hhv hnd
   have HKE := hid hk
   have HIK := hid hik
   clear hk hik
   replace d0 : wr.cell? ⟨(a.add (k * 6)).block,(a.add (k * 6)).off + 1,none⟩ = some (.int .i64 e.2.kd) := d0
   replace d1 : wr.cell? ⟨(a.add (k * 6)).block,(a.add (k * 6)).off + 2,none⟩ = some (.int .i64 e.2.nm) := d1
   replace d2 : wr.cell? ⟨(a.add (k * 6)).block,(a.add (k * 6)).off + 3,none⟩ = some (.string e.2.st) := d2
   replace d3 : wr.cell? ⟨(a.add (k * 6)).block,(a.add (k * 6)).off + 4,none⟩ = some (.slice o1 n1 c1) := d3
   replace d4 : wr.cell? ⟨(a.add (k * 6)).block,(a.add (k * 6)).off + 5,none⟩ = some (.slice o2 n2 c2) := d4
   have hbx : Below w4.heap.size w4 (wr.alloc (.cells #[.slice ou e.1.length cu,.int .i64 e.2.kd,.int .i64 e.2.nm,.string e.2.st,.slice o1 n1 c1,.slice o2 n2 c2] 43)) := valloc_bel HBR.out _
   obtain ⟨g9,cap9,Y,hr,hown9,hbl9⟩ := catL w4.heap.size (wr.alloc (.cells #[.slice ou e.1.length cu,.int .i64 e.2.kd,.int .i64 e.2.nm,.string e.2.st,.slice o1 n1 c1,.slice o2 n2 c2] 43)) _ E j HEL.out (HO.out.alloc _) wr.heap.size ⟨e.1,e.2,.slice ou e.1.length cu,.slice o1 n1 c1,.slice o2 n2 c2⟩ rfl rfl rfl (fun i u hu => by have := new_cells wr (lcE ⟨e.1,e.2,.slice ou e.1.length cu,.slice o1 n1 c1,.slice o2 n2 c2⟩) 43 i u hu; rwa [add_at] at this) hbx.size (by omega)
   have HY := hid (hbl9 w4 rfl hbx)
   have HO9 := hid (show Y.ownsRow w4.heap.size 43 6 (.slice (some ⟨g9,0,none⟩) (j + 1) cap9) (j + 1) ((E ++ [(⟨e.1,e.2,.slice ou e.1.length cu,.slice o1 n1 c1,.slice o2 n2 c2⟩ : LE)]).flatMap lcE) from by rw [List.flatMap_append]; simpa using hown9)
   clear hbl9 hown9 hbx
   go_wp2_with (at_builtin; go_must (refine Lib.wpList_append_run _ rfl _ _ _ _ rfl _ _ rfl rfl _ Y hr ?_))
   go_roundw
   case rel => exact ⟨j + 1,E ++ [⟨e.1,e.2,.slice ou e.1.length cu,.slice o1 n1 c1,.slice o2 n2 c2⟩],val_int (by have := HIK.out; omega),hlt,HO9,HY,hid (by rw [List.length_append,HEL.out]; rfl),hid (by rw [List.map_append,HEM.out,HRV.out]; rfl),hid (fun e' he' => by
    rcases List.mem_append.1 he' with he' | he'
    ·exact HEI.out e' he'
    ·rw [List.mem_singleton.1 he']; exact ⟨HIP.out,HHV.out⟩)⟩
   case measure => first | (simp [intOf]; done) | (simp [intOf]; omega)
  ·have hjn : j = n := by omega
   subst hjn
   have hik : (j : Int) - 1 - (j : Int) = -1 := by omega
   rw [hik]
   obtain ⟨om,cm,rfl⟩ := own_slice HO.out
   have HR := hid (show InLf wr ((lfT T []).reverse) (.slice om j cm) from by
    have := inlf_own (E := E) (by rw [HEL.out]; exact HO.out) (fun e he => ⟨(HEI.out e he).1.onto HBR.out,(HEI.out e he).2.onto HBR.out⟩)
    rwa [HEM.out,List.take_of_length_le (by rw [List.length_reverse,HN.out]; exact Nat.le_refl _)] at this)
   have g0 := keepCell HBR.out g0
   have g1 := keepCell HBR.out g1
   have g2 := keepCell HBR.out g2
   have g3 := keepCell HBR.out g3
   have g4 := keepCell HBR.out g4
   have HB5 := hid (vonto HB4.out HBR.out)
   have HL5 := hid (show InLf wr (lfT T []) (.slice ol j cl) from by have := HLF.out.onto HBR.out; rwa [HN.out] at this)
   have CB1 := hid (build_lf HM0.out HWF.out (List.Perm.refl _) _ wr HL5.out (HGX.out.on HB5.out))
   simp only [vv] at CB1
   clear hik HO HBR HEL HEM HEI
   go_wp2_with fail
   go_at_call 20
   refine CB1.out.mono ?_
   rintro e w6 ⟨x6,y6,rfl,hv6,hb6⟩
   obtain ⟨o1,n1,c1,o2,n2,c2,rfl,rfl⟩ := hv_slices hv6
   have g0 := keepCell hb6 g0
   have g1 := keepCell hb6 g1
   have g2 := keepCell hb6 g2
   have g3 := keepCell hb6 g3
   have g4 := keepCell hb6 g4
   have HR6 := hid (HR.out.onto hb6)
   have HB6 := hid (vonto HB5.out hb6)
   have HV6 := hid hv6
   clear hb6 hv6 CB1 HR HL5 HB5
   go_upto_region 12 with fail
   refine cewp_gen ?_
   intro W6 hW
   have hbW : Below w6.heap.size w6 W6 := by rw [hW]; exact valloc_bel (Below.refl _ _) _
   have p0 : W6.cell? ⟨w6.heap.size,0,none⟩ = some (.int .i64 T.kd) := by rw [hW]; simp
   have p1 : W6.cell? ⟨w6.heap.size,1,none⟩ = some (.int .i64 T.nm) := by rw [hW]; simp
   have p2 : W6.cell? ⟨w6.heap.size,2,none⟩ = some (.string T.st) := by rw [hW]; simp
   have p3 : W6.cell? ⟨w6.heap.size,3,none⟩ = some (.slice o1 n1 c1) := by rw [hW]; simp
   have p4 : W6.cell? ⟨w6.heap.size,4,none⟩ = some (.slice o2 n2 c2) := by rw [hW]; simp
   have g0 := keepCell hbW g0
   have g1 := keepCell hbW g1
   have g2 := keepCell hbW g2
   have g3 := keepCell hbW g3
   have g4 := keepCell hbW g4
   have HR7 := hid (HR6.out.onto hbW)
   have HB7 := hid (vonto HB6.out hbW)
   have HV7 := hid (HV6.out.onto hbW)
   clear hW hbW HR6 HB6 HV6
   have CB2 := hid (build_lf HM0.out HWF.out (List.reverse_perm (lfT T [])).symm _ W6 HR7.out (HGX.out.on HB7.out))
   simp only [vv] at CB2
   go_wp2_with fail
   go_at_call 20
   refine CB2.out.mono ?_
   rintro e w8 ⟨x8,y8,rfl,hv8,hb8⟩
   obtain ⟨o3,n3,c3,o4,n4,c4,rfl,rfl⟩ := hv_slices hv8
   have g0 := keepCell hb8 g0
   have g1 := keepCell hb8 g1
   have g2 := keepCell hb8 g2
   have g3 := keepCell hb8 g3
   have g4 := keepCell hb8 g4
   have p0 := keepCell hb8 p0
   have p1 := keepCell hb8 p1
   have p2 := keepCell hb8 p2
   have p3 := keepCell hb8 p3
   have p4 := keepCell hb8 p4
   have HB8 := hid (vonto HB7.out hb8)
   have HV67 := hid (HV7.out.onto hb8)
   have HV8 := hid hv8
   clear hb8 hv8 CB2 HR7 HB7 HV7
   go_upto_region 13 with fail
   refine cewp_gen ?_
   intro W8 hW
   have hbW : Below w8.heap.size w8 W8 := by rw [hW]; exact valloc_bel (Below.refl _ _) _
   have q0 : W8.cell? ⟨w8.heap.size,0,none⟩ = some (.int .i64 T.kd) := by rw [hW]; simp
   have q1 : W8.cell? ⟨w8.heap.size,1,none⟩ = some (.int .i64 T.nm) := by rw [hW]; simp
   have q2 : W8.cell? ⟨w8.heap.size,2,none⟩ = some (.string T.st) := by rw [hW]; simp
   have q3 : W8.cell? ⟨w8.heap.size,3,none⟩ = some (.slice o3 n3 c3) := by rw [hW]; simp
   have q4 : W8.cell? ⟨w8.heap.size,4,none⟩ = some (.slice o4 n4 c4) := by rw [hW]; simp
   have g0 := keepCell hbW g0
   have g1 := keepCell hbW g1
   have g2 := keepCell hbW g2
   have g3 := keepCell hbW g3
   have g4 := keepCell hbW g4
   have p0 := keepCell hbW p0
   have p1 := keepCell hbW p1
   have p2 := keepCell hbW p2
   have p3 := keepCell hbW p3
   have p4 := keepCell hbW p4
   have HB9 := hid (vonto HB8.out hbW)
   have HVA := hid (HV67.out.onto hbW)
   have HVB := hid (HV8.out.onto hbW)
   have HVT := hid (HT0.out.onto HB9.out)
   clear hW hbW HB8 HV67 HV8
   have CS1 := hid (same_any (szT T) T T _ _ _ _ false W8 (Nat.le_refl _) HVA.out HVT.out)
   have CS2 := hid (fun X (hX : Below W8.heap.size W8 X) => same_any (szT T) T T _ _ _ _ false X (Nat.le_refl _) (HVB.out.onto hX) (HVT.out.onto hX))
   rw [eq_same T] at CS1 CS2
   simp only [vv] at CS1 CS2
   rw [HKD.out] at CS1 CS2 p0 q0
   go_wp2_with fail
   go_at_call 16
   refine CS1.out.mono ?_
   rintro e w9 ⟨rfl,hb9⟩
   have g0 := keepCell hb9 g0
   have g1 := keepCell hb9 g1
   have g2 := keepCell hb9 g2
   have g3 := keepCell hb9 g3
   have g4 := keepCell hb9 g4
   have q0 := keepCell hb9 q0
   have q1 := keepCell hb9 q1
   have q2 := keepCell hb9 q2
   have q3 := keepCell hb9 q3
   have q4 := keepCell hb9 q4
   have HB10 := hid (vonto HB9.out hb9)
   have HB99 := hid hb9
   clear hb9 CS1 p0 p1 p2 p3 p4 HB9
   go_wp2_with fail
   go_at_call 16
   refine (CS2.out _ HB99.out).mono ?_
   rintro e w10 ⟨rfl,hb10⟩
   have g0 := keepCell hb10 g0
   have g1 := keepCell hb10 g1
   have g2 := keepCell hb10 g2
   have g3 := keepCell hb10 g3
   have g4 := keepCell hb10 g4
   have HB11 := hid (vonto HB10.out hb10)
   clear hb10 CS2 q0 q1 q2 q3 q4 HB10 HB99
   go_wp2_with fail
   go_at_call 24
   refine (CF.out _ HB11.out).mono ?_
   rintro e w11 ⟨oh,ch,orr,cr,rfl,hh,hr,hb11⟩
   have g0 := keepCell hb11 g0
   have g1 := keepCell hb11 g1
   have g2 := keepCell hb11 g2
   have g3 := keepCell hb11 g3
   have g4 := keepCell hb11 g4
   have HB12 := hid (vonto HB11.out hb11)
   have HH := hid hh
   have HRR := hid hr
   clear hb11 hh hr CF HB11
   obtain ⟨E0,hE0⟩ : ∃ e,flatE T = e := ⟨_,rfl⟩
   rw [hE0]
   have HE0 := hid hE0
   clear hE0
   go_upto_region 16 with fail
   refine cewp_gen ?_
   intro W11 hW
   obtain ⟨x0,x1,hbW⟩ := tb2_of hW
   have g0 := keepCell hbW g0
   have g1 := keepCell hbW g1
   have g2 := keepCell hbW g2
   have g3 := keepCell hbW g3
   have g4 := keepCell hbW g4
   have HB13 := hid (vonto HB12.out hbW)
   have HH13 := hid (HH.out.onto hbW)
   have HR13 := hid (HRR.out.onto hbW)
   clear hW hbW HH HRR HB12
   by_cases he0 : E0 = 0
   case neg =>
    have te : (E0 != 0) = true := by simpa using he0
    go_wp2_with fail
    go_ret
    exact ⟨rfl,HB13.out⟩
   have te : (E0 != 0) = false := by simpa using he0
   have HEE := hid (HE0.out.trans he0)
   clear he0
   have CU := hid (unflat_of HWF.out HEE.out (lists_ok HT0.out HM0.out HWF.out) _ _ W11 HH13.out HR13.out (HGX.out.on HB13.out))
   go_wp2_with fail
   go_at_call 14
   refine CU.out.mono ?_
   rintro e w12 ⟨x9,y9,rfl,hv9,hb12⟩
   obtain ⟨o5,n5,c5,o6,n6,c6,rfl,rfl⟩ := hv_slices hv9
   have g0 := keepCell hb12 g0
   have g1 := keepCell hb12 g1
   have g2 := keepCell hb12 g2
   have g3 := keepCell hb12 g3
   have g4 := keepCell hb12 g4
   have HB14 := hid (vonto HB13.out hb12)
   have HV9 := hid hv9
   clear hb12 hv9 CU HH13 HR13 x0 x1 HB13
   simp only [vv]
   go_upto_region 19 with fail
   refine cewp_gen ?_
   intro W12 hW
   have hbW : Below w12.heap.size w12 W12 := by rw [hW]; exact valloc_bel (Below.refl _ _) _
   have q0 : W12.cell? ⟨w12.heap.size,0,none⟩ = some (.int .i64 T.kd) := by rw [hW]; simp
   have q1 : W12.cell? ⟨w12.heap.size,1,none⟩ = some (.int .i64 T.nm) := by rw [hW]; simp
   have q2 : W12.cell? ⟨w12.heap.size,2,none⟩ = some (.string T.st) := by rw [hW]; simp
   have q3 : W12.cell? ⟨w12.heap.size,3,none⟩ = some (.slice o5 n5 c5) := by rw [hW]; simp
   have q4 : W12.cell? ⟨w12.heap.size,4,none⟩ = some (.slice o6 n6 c6) := by rw [hW]; simp
   have g0 := keepCell hbW g0
   have g1 := keepCell hbW g1
   have g2 := keepCell hbW g2
   have g3 := keepCell hbW g3
   have g4 := keepCell hbW g4
   have HB15 := hid (vonto HB14.out hbW)
   have HVC := hid (HV9.out.onto hbW)
   have HVT2 := hid (HT0.out.onto HB15.out)
   clear hW hbW HB14 HV9
   have CS3 := hid (same_any (szT T) T T _ _ _ _ false W12 (Nat.le_refl _) HVC.out HVT2.out)
   rw [eq_same T] at CS3
   simp only [vv] at CS3
   rw [HKD.out] at CS3 q0
   go_wp2_with fail
   go_at_call 16
   refine CS3.out.mono ?_
   rintro e w13 ⟨rfl,hb13⟩
   have HB16 := hid (vonto HB15.out hb13)
   go_wp2_with fail
   go_ret
   exact ⟨rfl,HB16.out⟩
end Go.Proofs.YteimbjamnfkapaaGreatDoor
namespace Go.Proofs.YteimbjamnfkapaaGreatDoor
theorem tshaped_and {H : Type} {enc : TypeId × Value → H} {a : Assume} {C : Checked} {os : Os} {f : FuncId} {fn : Func} {s : ChangeSpec} {conds : List PathCond} {apart fresh handsOn again : Bool} {X : World → Array Value → Prop}
  (hX : ∀ (w w' : World) (args : Array Value),w.heap = w'.heap → X w args → X w' args) (own : ownKnob C.prog.godebug = none) (started : os.Started) (noInit : C.prog.inits.idxOf? f = none) (hfn : C.prog.funcs[f]? = some fn)
  (seen : ∃ (w : World) (tape : Tape) (i : Input),w.os = os ∧ (w.forCall tape i).Shaped C.prog ∧ i.vars = [] ∧ Input.okWide C.prog (w.forCall tape i) .any w.heap.size f i ∧ ((s.pre enc C.prog fn conds apart (w.forCall tape i).memory i.args ∧ X (w.forCall tape i).memory i.args) ∧ sizedMet enc C.prog fn (OpenSpec.ofChange s) apart (w.forCall tape i).memory i.args) ∧ a.holds C.prog (lone (Frame.enter C.prog f i.args .normal) [] (w.forCall tape i)))
  (walk : ∀ (W : World) (base : Nat) (args : Array Value) (ds gs : List (DataW H)) (before : List MemPlace),(∀ (j : Nat) t v,fn.params[j]? = some t → args[j]? = some v → Value.okWide C.prog W .any base t v) → DataW.Whole enc C.prog fn.params.toList s.vars apart W args.toList ds gs before →
   conds.all (PathCond.test C.prog ⟨fn.params.toList,ds,s.plain.varTypes C.prog,gs⟩) = true → X W args → W.ShapedOpen C.prog → Calls C.prog f args W fun e W' => ∃ v,e = .returned v ∧ s.post enc C.prog fn apart fresh handsOn again W args v W') :
  ReturnsInHanded a C os f .any (fun w args => (s.pre enc C.prog fn conds apart w args ∧ X w args) ∧ sizedMet enc C.prog fn (OpenSpec.ofChange s) apart w args) (s.post enc C.prog fn apart fresh handsOn again) := by
 refine returnsInHanded_of_calls own started noInit seen fun w tape i _ shp _ wide pre _ => ?_
 obtain ⟨-,-,-,fn',hf',-,-,-,-,vals⟩ := wide
 obtain rfl : fn' = fn := Option.some.inj (hf'.symm.trans hfn)
 obtain ⟨⟨⟨ds,gs,before,whole,cond⟩,hx⟩,-⟩ := pre
 refine (walk _ w.heap.size i.args ds gs before vals (DataW.Whole.of_heap (w' := w.forCall tape i) (by rfl) whole) cond (hX _ _ _ (by rfl) hx) shp).mono ?_
 rintro e W' ⟨v,rfl,post⟩
 exact ChangeSpec.post_blind post
end Go.Proofs.YteimbjamnfkapaaGreatDoor
namespace Go.Proofs.YteimbjamnfkapaaGreatDoor
open Go.RowKit
theorem f16lg1 : Tryz.prog.globalNamed "internal/strconv.uint64pow10" = some 6 := by kernel_rfl
theorem f16lg2 : (Tryz.prog.globals[6]?).map (·.type) = some 324 := by kernel_rfl
theorem f16lg3 : Tryz.prog.cellsOf 251 = 1 := by kernel_rfl
theorem f16lg4 : Tryz.prog.cellsOf 324 = 20 := by kernel_rfl
theorem f16ls1 : Tryz.prog.globalNamed "strconv.ErrSyntax" = some 1 := by kernel_rfl
theorem f16ls2 : (Tryz.prog.globals[1]?).map (·.type) = some 183 := by kernel_rfl
theorem f16lr1 : Tryz.prog.globalNamed "strconv.ErrRange" = some 2 := by kernel_rfl
theorem f16lr2 : (Tryz.prog.globals[2]?).map (·.type) = some 183 := by kernel_rfl
theorem f16le1 : Tryz.prog.cellsOf 318 = 1 := by kernel_rfl
theorem f16le2 : Tryz.prog.cellsOf 9 = 1 := by kernel_rfl
theorem f16lstar : "*errors.errorString" = "*" ++ "errors.errorString" := by decide
theorem f16lrow (u : TypeId) (h : Tryz.prog.typeName? 3 u = some "*errors.errorString") : u = 316 :=
 typeName_ptr_named (nm := "errors.errorString") (by rw [← f16lstar]; kernel_rfl) (by kernel_rfl) (by decide) u (by rw [← f16lstar]; exact h)
theorem f16pick_laid {W : World} {l : List (String × DataW Unit)} (h : laidMetH Tryz.prog l W) (keep : String × DataW Unit → Bool) (x : String × DataW Unit) (hx : l.filter keep = [x]) (hp : x.2.handleName?.isNone = true) : laidMet Tryz.prog [x] W := by
 have k := h.filter keep
 rw [hx,MakeChecks.laidMetH_plain _ _ _ (by simp [hp])] at k
 exact k
theorem glob_f {W : World} (h : laidMetH Tryz.prog Rows.unflatBackRow.laid W) (hsh : W.ShapedOpen Tryz.prog) : GlobF W := by
 have h1 := f16pick_laid h (fun x => x.1 == "internal/strconv.uint64pow10") ("internal/strconv.uint64pow10", Rows.laid_internal_strconv_uint64pow10) (by kernel_rfl) (by kernel_rfl)
 have h2 := f16pick_laid h (fun x => x.1 == "strconv.ErrSyntax") ("strconv.ErrSyntax", Rows.laid_strconv_ErrSyntax) (by kernel_rfl) (by kernel_rfl)
 have h3 := f16pick_laid h (fun x => x.1 == "strconv.ErrRange") ("strconv.ErrRange", Rows.laid_strconv_ErrRange) (by kernel_rfl) (by kernel_rfl)
 obtain ⟨a0,s0,hv0,-,-,-⟩ := laid_sentinel h2 f16ls1 f16ls2 Tryz.underlying183 f16lrow Tryz.underlying316 Tryz.underlying318 rfl rfl Tryz.underlying9 f16le1 f16le2
 obtain ⟨a1,s1,hv1,-,-,-⟩ := laid_sentinel h3 f16lr1 f16lr2 Tryz.underlying183 f16lrow Tryz.underlying316 Tryz.underlying318 rfl rfl Tryz.underlying9 f16le1 f16le2
 have ht := Lib.tabIs_of_head (rest := []) (zs := Lib.pow10Tab) f16lg1 f16lg2 Tryz.underlying324 Tryz.underlying251 f16lg3 f16lg4 h1
 exact ⟨⟨⟨⟨_,_,hv0⟩,⟨_,_,hv1⟩⟩,ht⟩,⟨cell_of_shapedOpen_int (g := 0) (t := 3) (zero := #[.int .i64 0]) hsh (of_decide_eq_true (by kernel_rfl)) (by kernel_rfl) rfl (by kernel_rfl) (by kernel_rfl) Tryz.underlying3,ht,⟨_,_,hv1⟩⟩⟩
end Go.Proofs.YteimbjamnfkapaaGreatDoor
namespace Go.Proofs.YteimbjamnfkapaaGreatDoor
open Go.RowKit Go.WideShapes
set_option maxRecDepth 100000 in
theorem open_tree {H : Type} {enc : TypeId × Value → H} {w W : World} {base b : Nat} {r : Reach} {spare : Nat → Bool} {held : Bool} {v : Value} {d : DataW H} {ps : List MemPlace}
  (hv : Value.okWide Tryz.prog W r b 29 v) (h : DataW.Trod enc Tryz.prog w base spare held 29 v d ps) : ∃ (T : VT) (x y : Value),v = vv T x y ∧ HV w T x y := by
 obtain ⟨cs,rfl,-⟩ := okWide_struct Tryz.underlying29 hv
 obtain ⟨fuel,hf⟩ := h
 obtain ⟨T,x,y,hc,hT⟩ := tree_of fuel _ _ hf
 refine ⟨T,x,y,?_,hT⟩
 have : cs.toList = [.int .i64 T.kd,.int .i64 T.nm,.string T.st,x,y] := by simpa [Value.cells] using hc
 unfold vv
 congr 1
 apply Array.ext'
 rw [this]
end Go.Proofs.YteimbjamnfkapaaGreatDoor
