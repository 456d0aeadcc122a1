import Derived.Test.YteimbjamnfkapaaGreatDoorCUnP
import Derived.Test.YteimbjamnfkapaaGreatDoorCMathUc
import Derived.Test.YteimbjamnfkapaaGreatDoorCVSize
/- Plain mathematics: a good tree is made as it is normally made; leaves in any order. -/
namespace Go.Proofs.YteimbjamnfkapaaGreatDoor
open Go.RowKit
theorem five_parts {n : Int} {s : ByteArray} {L : List VT} {K : List ByteArray} {V : List VT} (h : nodeB (.mk 5 n s L K V) = true) : n = 0 ∧ s = ⟨#[]⟩ ∧ V = [] := by
 change nodeC 5 n (n == 0) s.toList.isEmpty ((L.length : Int) == 0) ((V.length : Int) == 0) (numB s.data.toList && !intB s.data.toList) (teI s == 0) (stampB s) (keysB K) = true at h
 unfold nodeC at h
 rw [if_neg (by decide), if_neg (by decide), if_neg (by decide), if_neg (by decide), if_neg (by decide), if_neg (by decide), if_pos rfl] at h
 simp only [Bool.and_eq_true, beq_iff_eq] at h
 exact ⟨h.1.1, ba_nil h.1.2, List.eq_nil_of_length_eq_zero (by omega)⟩
theorem six_parts {n : Int} {s : ByteArray} {L : List VT} {K : List ByteArray} {V : List VT} (h : nodeB (.mk 6 n s L K V) = true) : n = 0 ∧ s = ⟨#[]⟩ ∧ L = [] ∧ keysB K = true := by
 change nodeC 6 n (n == 0) s.toList.isEmpty ((L.length : Int) == 0) ((V.length : Int) == 0) (numB s.data.toList && !intB s.data.toList) (teI s == 0) (stampB s) (keysB K) = true at h
 unfold nodeC at h
 rw [if_neg (by decide), if_neg (by decide), if_neg (by decide), if_neg (by decide), if_neg (by decide), if_neg (by decide), if_neg (by decide), if_pos rfl] at h
 simp only [Bool.and_eq_true, beq_iff_eq] at h
 exact ⟨h.1.1.1, ba_nil h.1.1.2, List.eq_nil_of_length_eq_zero (by omega), h.2⟩
theorem nrm_of : ∀ (N : Nat) {T : VT}, szT T ≤ N → plainT T = true → wfT T → Nrm T
 | 0, T, h, _, _ => by have := szT_pos T; omega
 | N + 1, T, h, hp, hw => by
  by_cases h5 : T.kd = 5 ∧ 0 < T.ls.length
  ·obtain ⟨k, n, s, L, K, V⟩ := T
   obtain ⟨e, hL⟩ := h5
   simp only [VT.kd, VT.ls] at e hL
   subst e
   have hn : nodeB (.mk 5 n s L K V) = true := by rw [plainT_eq] at hp; simp only [Bool.and_eq_true] at hp; exact hp.1.1
   obtain ⟨rfl, rfl, rfl⟩ := five_parts hn
   have hK := ((wfT_eq _).1 hw).1
   have hK : K = [] := List.eq_nil_of_length_eq_zero hK
   subst hK
   refine .list (by intro e; rw [e] at hL; exact absurd hL (by decide)) (fun t ht => ?_)
   obtain ⟨i, hi⟩ := List.getElem?_of_mem ht
   have h1 := szT_ls (.mk 5 0 ⟨#[]⟩ L [] []) i t hi
   exact nrm_of N (by omega) (plain_ls hp hi) ((wfL_get _).1 ((wfT_eq _).1 hw).2.1 i t hi)
  ·by_cases h6 : T.kd = 6 ∧ 0 < T.vs.length
   ·obtain ⟨k, n, s, L, K, V⟩ := T
    obtain ⟨e, hV⟩ := h6
    simp only [VT.kd, VT.vs] at e hV
    subst e
    have hn : nodeB (.mk 6 n s L K V) = true := by rw [plainT_eq] at hp; simp only [Bool.and_eq_true] at hp; exact hp.1.1
    obtain ⟨rfl, rfl, rfl, hk⟩ := six_parts hn
    have hK : K.length = V.length := ((wfT_eq _).1 hw).1
    refine .map (by intro e; rw [e] at hV; exact absurd hV (by decide)) hK (keys_strict hk) (fun t ht => ?_)
    obtain ⟨i, hi⟩ := List.getElem?_of_mem ht
    have h1 := szT_vs (.mk 6 0 ⟨#[]⟩ [] K V) i t hi
    exact nrm_of N (by omega) (plain_vs hp hi) ((wfL_get _).1 ((wfT_eq _).1 hw).2.2 i t hi)
   ·obtain ⟨a, b⟩ := leaf_bare hp h5 h6
    exact .leaf a b
theorem bad_iff (l : Lvs) : (∀ k, badE l k = 0) ↔ (∀ e ∈ l, partsB e.2 = false) ∧ Pw l := by
 constructor
 ·intro h
  refine ⟨fun e he => ?_, List.pairwise_iff_getElem.2 fun i j hi hj hij => ?_⟩
  ·obtain ⟨k, hk⟩ := List.getElem?_of_mem he
   have := h k
   unfold badE at this
   simp only [hk] at this
   cases hp : partsB e.2 with
   | false => rfl
   | true => rw [if_pos hp] at this; cases this
  ·have := h j
   unfold badE at this
   simp only [List.getElem?_eq_getElem hj] at this
   cases hp : partsB (l[j]).2 with
   | true => rw [if_pos hp] at this; cases this
   | false =>
    rw [if_neg (by rw [hp]; decide)] at this
    cases hc : clP (l[i]).1 (l[j]).1 with
    | false => rfl
    | true =>
     rw [if_pos] at this
     ·cases this
     ·rw [List.any_eq_true]
      exact ⟨l[i], List.mem_of_getElem? (by rw [List.getElem?_take_of_lt hij]; exact List.getElem?_eq_getElem hi), hc⟩
 ·rintro ⟨h1, h2⟩ k
  unfold badE
  cases he : l[k]? with
  | none => rfl
  | some e =>
   have hb := h1 e (List.mem_of_getElem? he)
   have hc : ((l.take k).any fun x => clP x.1 e.1) = false := by
    rw [List.any_eq_false]
    intro x hx
    obtain ⟨j, hj⟩ := List.getElem?_of_mem hx
    have hjk : j < k := by have := lt_of_some hj; rw [List.length_take] at this; omega
    rw [List.getElem?_take_of_lt hjk] at hj
    have := List.pairwise_iff_getElem.1 h2 j k (lt_of_some hj) (lt_of_some he) hjk
    obtain ⟨_, e1⟩ := List.getElem?_eq_some_iff.1 hj
    obtain ⟨_, e2⟩ := List.getElem?_eq_some_iff.1 he
    rw [e1, e2] at this
    rw [this]; decide
   simp only [hb, hc, Bool.false_eq_true, if_false]
theorem gap_mem {l l' : Lvs} (h : ∀ e, e ∈ l ↔ e ∈ l') {k : Nat} (hg : GapAt l' k) : ∃ j, GapAt l j := by
 obtain ⟨e, he, q, s, h1, h2, h3⟩ := hg
 obtain ⟨j, hj⟩ := List.getElem?_of_mem ((h e).2 (List.mem_of_getElem? he))
 refine ⟨j, e, hj, q, s, h1, h2, fun hw => h3 ?_⟩
 rintro a ⟨e1, he1, s1, h4, h5⟩ k hk hka
 obtain ⟨e2, he2, s2, h6, h7⟩ := hw a ⟨e1, (h e1).2 he1, s1, h4, h5⟩ k hk hka
 exact ⟨e2, (h e2).1 he2, s2, h6, h7⟩
theorem bp_perm {l l' : Lvs} {T : VT} (h : BP l 0 0 T) (p : l.Perm l') : BP l' 0 0 T := by
 have hm : ∀ e, e ∈ l ↔ e ∈ l' := fun e => p.mem_iff
 generalize hk : (0 : Int) = k at h
 generalize hi : (0 : Nat) = i at h
 cases h with
 | none h => cases hk
 | bad i h1 h2 => exact absurd hk.symm h2
 | gap _ _ _ _ _ => cases hk
 | great _ _ _ _ => cases hk
 | ok T h0 h1 h2 h3 h4 =>
  obtain ⟨b1, b2⟩ := (bad_iff l).1 h1
  refine .ok T (fun e => h0 (by subst e; exact p.eq_nil)) ((bad_iff l').2 ⟨fun e he => b1 e ((hm e).2 he), (p.pairwise_iff (fun {a b} hab => by rw [clP_comm]; exact hab)).1 b2⟩) (fun k hg => ?_) ⟨h3.1, fun r t hr => (h3.2 r t hr).trans (hm _)⟩ h4
  obtain ⟨j, hj⟩ := gap_mem hm hg
  exact h2 j hj
end Go.Proofs.YteimbjamnfkapaaGreatDoor
/- Plain mathematics of a table: what stands in a row at a column. -/
namespace Go.Proofs.YteimbjamnfkapaaGreatDoor
open Go.RowKit
theorem good_ix {C : List (List PStep)} (h : Good3 C) {i j : Nat} {c : List PStep} (hi : C[i]? = some c) (hj : C[j]? = some c) : i = j := by
 obtain ⟨i1, e1⟩ := List.getElem?_eq_some_iff.1 hi
 obtain ⟨j1, e2⟩ := List.getElem?_eq_some_iff.1 hj
 rcases Nat.lt_trichotomy i j with h1 | h1 | h1
 ·have := (List.pairwise_iff_getElem.1 h.s) _ _ i1 j1 h1
  rw [e1, e2, cp_refl] at this; omega
 ·exact h1
 ·have := (List.pairwise_iff_getElem.1 h.s) _ _ j1 i1 h1
  rw [e1, e2, cp_refl] at this; omega
theorem rowF_out : ∀ (l : List (List PStep × VT)) (C : List (List PStep)) (R : List ByteArray), Good3 C → R.length = C.length → (∀ e ∈ l, e.1 ∈ C) → ∀ (k : Nat) (c : List PStep), C[k]? = some c → (∀ e ∈ l, e.1 ≠ c) → (rowF l C R)[k]? = R[k]?
 | [], _, _, _, _, _, _, _, _, _ => rfl
 | e :: l, C, R, hC, hR, hm, k, c, hk, h => by
  show (rowF l C (R.set (posC C e.1) (cellP e.2)))[k]? = _
  rw [rowF_out l C _ hC (by rw [List.length_set]; exact hR) (fun e' he' => hm e' (by simp [he'])) k c hk (fun e' he' => h e' (by simp [he']))]
  rw [List.getElem?_set_ne (fun hp => ?_)]
  have h1 := pos_in hC (hm e (by simp))
  rw [hp, hk] at h1
  injection h1 with h1
  exact h e (by simp) h1.symm
theorem rowF_in : ∀ (l : List (List PStep × VT)) (C : List (List PStep)) (R : List ByteArray), Good3 C → R.length = C.length → (l.map (·.1)).Nodup → (∀ e ∈ l, e.1 ∈ C) → ∀ (k : Nat) (c : List PStep) (u : VT), C[k]? = some c → (c, u) ∈ l → (rowF l C R)[k]? = some (cellP u)
 | [], _, _, _, _, _, _, _, _, _, _, h => by cases h
 | e :: l, C, R, hC, hR, hn, hm, k, c, u, hk, h => by
  show (rowF l C (R.set (posC C e.1) (cellP e.2)))[k]? = _
  rw [List.map_cons, List.nodup_cons] at hn
  rcases List.mem_cons.1 h with h | h
  ·subst h
   have hp : posC C c = k := good_ix hC (pos_in hC (hm (c, u) (by simp))) hk
   rw [hp]
   have hkl : k < R.length := by have := lt_of_some hk; omega
   rw [rowF_out l C _ hC (by rw [List.length_set]; exact hR) (fun e' he' => hm e' (by simp [he'])) k c hk (fun e' he' h1 => hn.1 (List.mem_map.2 ⟨e', he', h1⟩))]
   exact List.getElem?_set_self hkl
  ·exact rowF_in l C _ hC (by rw [List.length_set]; exact hR) hn.2 (fun e' he' => hm e' (by simp [he'])) k c u hk h
def cellAt (t : VT) (c : List PStep) : ByteArray := match getP t c with
 | some u => if u.ls.length + u.vs.length = 0 then cellP u else ⟨#[]⟩
 | none => ⟨#[]⟩
theorem row_at {T t : VT} (h : mayB 0 1 T = true) (hw : wfT T) {i : Nat} (hi : T.ls[i]? = some t) {k : Nat} {c : List PStep} (hk : (flatC T)[k]? = some c) : (rowM (lfT t []) (flatC T))[k]? = some (cellAt t c) := by
 obtain ⟨h1, h2, h3⟩ := good_sz h
 have hsz := szT_ls T i t hi
 have hpt := plain_ls h3 hi
 have hwt := (wfL_get _).1 ((wfT_eq T).1 hw).2.1 i t hi
 have hG := flat_good h hw
 have hm : ∀ e ∈ lfT t [], e.1 ∈ flatC T := fun e he => (flat_mem h hw).2 ⟨e, List.mem_flatten.2 ⟨_, List.mem_map.2 ⟨t, List.mem_of_getElem? hi, rfl⟩, he⟩, rfl⟩
 have hfc : ∀ s ∈ c, Frm s := hG.f c (List.mem_of_getElem? hk)
 unfold rowM
 by_cases hx : ∃ u, (c, u) ∈ lfT t []
 ·obtain ⟨u, hu⟩ := hx
  rw [rowF_in _ _ _ hG (by simp) (lf_nd _ (Nat.le_refl _) hpt hwt (by omega) _) hm k c u hk hu]
  obtain ⟨r, hr⟩ := lf_get (szT t) (T := t) (Nat.le_refl _) hpt hwt (by omega) _ c u hu
  have e : c = r := by rw [hr.e]; rfl
  unfold cellAt
  rw [e, hr.g]
  simp [hr.b.1, hr.b.2]
 ·rw [rowF_out _ _ _ hG (by simp) hm k c hk (fun e he h4 => hx ⟨e.2, by rw [← h4]; exact he⟩)]
  have hkl := lt_of_some hk
  rw [List.getElem?_replicate, if_pos hkl]
  unfold cellAt
  cases hg : getP t c with
  | none => rfl
  | some u =>
   simp only
   split
   ·rename_i h0
    exfalso
    refine hx ⟨u, ?_⟩
    have := get_lf c (T := t) [] u hpt hwt hg ⟨List.eq_nil_of_length_eq_zero (by omega), List.eq_nil_of_length_eq_zero (by omega)⟩ hfc
    simpa using this
   ·rfl
end Go.Proofs.YteimbjamnfkapaaGreatDoor
/- Plain mathematics of a table that a list has written: it is that list, in whatever order its columns stand. -/
namespace Go.Proofs.YteimbjamnfkapaaGreatDoor
open Go.RowKit
theorem c_e9 : cdC ⟨#[]⟩ = 9 := by kernel_rfl
def CelOk (u : VT) : Prop := celB u = true ∧ u.ks.length = u.vs.length ∧ -9223372036854775808 ≤ u.nm ∧ u.nm < 9223372036854775808
theorem cell_back {u : VT} (h : CelOk u) : cdC (cellP u) = 0 ∧ trC (cellP u) = u := by
 have e : celT (cellP u).data.toList = (u, 0) := by
  unfold cellP
  rw [if_pos h.1, mkS_list]
  exact cel_back h.1 h.2.1 h.2.2
 unfold cdC trC
 rw [e]
 exact ⟨rfl, rfl⟩
theorem cell_in {t : VT} (hN : Nrm t) {c : List PStep} {u : VT} (hc : AllCn c) (h : (c, u) ∈ lfT t []) : cellAt t c = cellP u := by
 have := ((lf_tree hN).2 c u hc).2 h
 unfold cellAt
 rw [this.1]
 simp [this.2.1, this.2.2]
theorem cell_out {t : VT} (hN : Nrm t) {c : List PStep} (hc : AllCn c) (h : ∀ u, (c, u) ∉ lfT t []) : cellAt t c = ⟨#[]⟩ := by
 unfold cellAt
 cases hg : getP t c with
 | none => rfl
 | some u =>
  simp only
  split
  ·rename_i h0
   exact absurd (((lf_tree hN).2 c u hc).1 ⟨hg, List.eq_nil_of_length_eq_zero (by omega), List.eq_nil_of_length_eq_zero (by omega)⟩) (h u)
  ·rfl
theorem lfU_is {t : VT} (hN : Nrm t) {C : List (List PStep)} {R : List ByteArray} (hcn : ∀ p ∈ C, AllCn p) (hR : ∀ (k : Nat) (c : List PStep), C[k]? = some c → R[k]? = some (cellAt t c)) (hq : ∀ z ∈ lfT t [], CelOk z.2) (k : Nat) (z : List PStep × VT) : lfU C R k = some z ↔ C[k]? = some z.1 ∧ z ∈ lfT t [] := by
 unfold lfU
 cases hk : C[k]? with
 | none => simp
 | some p =>
  rw [hR k p hk]
  have hp := hcn p (List.mem_of_getElem? hk)
  by_cases hx : ∃ u, (p, u) ∈ lfT t []
  ·obtain ⟨u, hu⟩ := hx
   obtain ⟨c1, c2⟩ := cell_back (hq _ hu)
   simp only [cell_in hN hp hu, c1, c2, show ¬ (0 : Int) = 9 by decide, if_false, Option.some.injEq]
   constructor
   ·rintro rfl; exact ⟨rfl, hu⟩
   ·rintro ⟨h1, h2⟩
    obtain ⟨z1, z2⟩ := z
    simp only at h1
    subst h1
    have e1 := ((lf_tree hN).2 p u hp).2 hu
    have e2 := ((lf_tree hN).2 p z2 hp).2 h2
    have := e1.1.symm.trans e2.1
    injection this with this
    rw [this]
  ·have he := cell_out hN hp (fun u hu => hx ⟨u, hu⟩)
   simp only [he, c_e9, if_true]
   constructor
   ·intro h; cases h
   ·rintro ⟨h1, h2⟩
    injection h1 with h1
    exact absurd ⟨z.2, by rw [h1]; exact h2⟩ hx
theorem row_perm {t : VT} (hN : Nrm t) (hnd : (lfT t []).Nodup) {C : List (List PStep)} {R : List ByteArray} (hC : C.Nodup) (hcn : ∀ p ∈ C, AllCn p) (hlen : R.length = C.length) (hR : ∀ (k : Nat) (c : List PStep), C[k]? = some c → R[k]? = some (cellAt t c)) (hall : ∀ e ∈ lfT t [], e.1 ∈ C) (hq : ∀ z ∈ lfT t [], CelOk z.2) : (lfT t []).Perm (lvU C R R.length) ∧ ∀ k, badC R k = 0 := by
 have hL := lfU_is hN hcn hR hq
 constructor
 ·have h2 : (lvU C R R.length).Nodup := by
   unfold lvU
   refine List.Pairwise.filterMap (R := fun a b => a ≠ b) _ (fun a a' haa b h1 b' h2 => ?_) List.nodup_range
   rintro rfl
   have e1 := ((hL a b).1 h1).1
   have e2 := ((hL a' b).1 h2).1
   exact haa ((List.getElem?_inj (lt_of_some e1) hC).1 (e1.trans e2.symm))
  refine (List.perm_ext_iff_of_nodup hnd h2).2 (fun z => ?_)
  unfold lvU
  rw [List.mem_filterMap]
  constructor
  ·intro hz
   obtain ⟨k, hk⟩ := List.getElem?_of_mem (hall z hz)
   exact ⟨k, List.mem_range.2 (by have := lt_of_some hk; omega), (hL k z).2 ⟨hk, hz⟩⟩
  ·rintro ⟨k, -, hk⟩
   exact ((hL k z).1 hk).2
 ·intro k
  unfold badC
  cases hk : R[k]? with
  | none => rfl
  | some c =>
   obtain ⟨p, hp⟩ : ∃ p, C[k]? = some p := ⟨_, List.getElem?_eq_getElem (by have := lt_of_some hk; omega)⟩
   rw [hR k p hp] at hk
   injection hk with hk
   subst hk
   have hpc := hcn p (List.mem_of_getElem? hp)
   by_cases hx : ∃ u, (p, u) ∈ lfT t []
   ·obtain ⟨u, hu⟩ := hx
    simp only [cell_in hN hpc hu, (cell_back (hq _ hu)).1]
    rfl
   ·simp only [cell_out hN hpc (fun u hu => hx ⟨u, hu⟩), c_e9]
    rfl
theorem row_mp {t : VT} (hN : Nrm t) (hnd : (lfT t []).Nodup) {C : List (List PStep)} {R : List ByteArray} (hC : C.Nodup) (hcn : ∀ p ∈ C, AllCn p) (hlen : R.length = C.length) (hR : ∀ (k : Nat) (c : List PStep), C[k]? = some c → R[k]? = some (cellAt t c)) (hall : ∀ e ∈ lfT t [], e.1 ∈ C) (hq : ∀ z ∈ lfT t [], CelOk z.2) (hm : mayB 0 1 t = true) (h6 : t.kd = 6) : MP C R 0 0 t := by
 obtain ⟨h1, h2⟩ := row_perm hN hnd hC hcn hlen hR hall hq
 have hb := bp_perm (lf_build hN hm) h1
 refine .ok t h2 (fun e => ?_) hb h6
 rw [e] at hb
 generalize hk : (0 : Int) = k at hb
 cases hb with
 | none h => cases hk
 | bad i h1 h2 => exact h2 (by rw [bad_nil rfl])
 | gap i h0 _ _ _ => exact h0 rfl
 | great h0 _ _ _ => exact h0 rfl
 | ok T h0 _ _ _ _ => exact h0 rfl
end Go.Proofs.YteimbjamnfkapaaGreatDoor
/- Plain mathematics: the table of a list, with its columns in any order, is that list. -/
namespace Go.Proofs.YteimbjamnfkapaaGreatDoor
open Go.RowKit
theorem nm_prs {p : List PStep} (h : 47 :: (nmP p).data.toList = textP p) (hf : FrmP p) : prsN (nmP p) = some p := by
 unfold prsN
 rw [h]
 exact parse_text hf
theorem cp_names {C : List (List PStep)} (hC : C.Nodup) (h : ∀ p ∈ C, prsN (nmP p) = some p) : CP (C.map nmP) 0 0 C := by
 refine .ok _ (fun k => ?_) ?_
 ·unfold badN
  cases hk : (C.map nmP)[k]? with
  | none => rfl
  | some c =>
   rw [List.getElem?_map] at hk
   obtain ⟨p, hp, rfl⟩ := Option.map_eq_some_iff.1 hk
   have h1 := h p (List.mem_of_getElem? hp)
   have h2 : hasN ((C.map nmP).take k) (nmP p) = false := by
    cases h2 : hasN ((C.map nmP).take k) (nmP p) with
    | false => rfl
    | true =>
     have h3 := hasN_iff.1 h2
     obtain ⟨j, hj⟩ := List.getElem?_of_mem h3
     have h4 : j < k := by have := lt_of_some hj; rw [List.length_take] at this; omega
     rw [List.getElem?_take_of_lt h4, List.getElem?_map] at hj
     obtain ⟨q, hq, e⟩ := Option.map_eq_some_iff.1 hj
     have h5 := h q (List.mem_of_getElem? hq)
     rw [e, h1] at h5
     injection h5 with h5
     subst h5
     have := (List.getElem?_inj (lt_of_some hq) hC).1 (hq.trans hp.symm)
     omega
   simp only [h1, h2, Bool.false_eq_true, if_false]
 ·rw [List.map_map]
  apply List.map_congr_left
  intro p hp
  exact h p hp
theorem may_ls {T t : VT} (h : mayB 0 1 T = true) {i : Nat} (hi : T.ls[i]? = some t) : mayB 0 1 t = true := by
 obtain ⟨h1, h2, h3⟩ := good_sz h
 have hsz := szT_ls T i t hi
 have hh := hg_ls T
 have hht := (hgL_get T.ls _).1 (Nat.le_refl _) i t hi
 unfold mayB
 simp only [Bool.and_eq_true, decide_eq_true_eq]
 exact ⟨⟨by omega, by omega⟩, plain_ls h3 hi⟩
theorem up_back {T : VT} (hl : lomB T = true) (hw : wfT T) (hq : ∀ t ∈ T.ls, ∀ z ∈ lfT t [], CelOk z.2) {C : List (List PStep)} (hC : C.Nodup) (hmem : ∀ p, p ∈ C ↔ p ∈ flatC T) {Rs : List (List ByteArray)} (hrl : Rs.length = T.ls.length)
  (hR : ∀ (i : Nat) (R : List ByteArray) (t : VT), Rs[i]? = some R → T.ls[i]? = some t → R.length = C.length ∧ ∀ (k : Nat) (c : List PStep), C[k]? = some c → R[k]? = some (cellAt t c)) : UP (C.map nmP) Rs 0 0 0 T := by
 have hl0 := hl
 obtain ⟨h5, hm, hk6⟩ := lom_parts hl
 obtain ⟨g1, g2, g3⟩ := good_sz hm
 have hG := flat_good hm hw
 have hname : ∀ p ∈ C, prsN (nmP p) = some p ∧ FrmP p := fun p hp => by
  obtain ⟨a, b⟩ := col_name hl0 hw ((hmem p).1 hp)
  exact ⟨nm_prs a b, b⟩
 have hcn : ∀ p ∈ C, AllCn p := fun p hp s hs => Cn.of ((hname p hp).2 s hs)
 have hne : T.ls ≠ [] := by
  unfold lomB at hl0
  simp only [Bool.and_eq_true, Bool.not_eq_true', List.isEmpty_eq_false_iff] at hl0
  exact hl0.1.1.2
 have hmp : ∀ (i : Nat) (R : List ByteArray), Rs[i]? = some R → ∃ t, T.ls[i]? = some t ∧ MP C R 0 0 t := fun i R hi => by
  obtain ⟨t, ht⟩ : ∃ t, T.ls[i]? = some t := ⟨_, List.getElem?_eq_getElem (by have := lt_of_some hi; omega)⟩
  have hsz := szT_ls T i t ht
  have hpt := plain_ls g3 ht
  have hwt := (wfL_get _).1 ((wfT_eq T).1 hw).2.1 i t ht
  obtain ⟨r1, r2⟩ := hR i R t hi ht
  have hnd := lf_nd (szT t) (T := t) (Nat.le_refl _) hpt hwt (by omega) []
  exact ⟨t, ht, row_mp (nrm_of (szT t) (Nat.le_refl _) hpt hwt) (List.Pairwise.of_map (S := fun a b => a ≠ b) (·.1) (fun a b h e => h (by rw [e])) hnd) hC hcn r1 r2 (fun e he => (hmem _).2 ((flat_mem hm hw).2 ⟨e, List.mem_flatten.2 ⟨_, List.mem_map.2 ⟨t, List.mem_of_getElem? ht, rfl⟩, he⟩, rfl⟩)) (hq t (List.mem_of_getElem? ht)) (may_ls hm ht) (hk6 t (List.mem_of_getElem? ht)).1⟩
 have hlen : ∀ R ∈ Rs, R.length = (C.map nmP).length := fun R hR' => by
  obtain ⟨i, hi⟩ := List.getElem?_of_mem hR'
  obtain ⟨t, ht, -⟩ := hmp i R hi
  rw [List.length_map]
  exact (hR i R t hi ht).1
 obtain ⟨k, n, s, L, K, V⟩ := T
 have h5 : k = 5 := h5
 subst h5
 have hn : nodeB (.mk 5 n s L K V) = true := by rw [plainT_eq] at g3; simp only [Bool.and_eq_true] at g3; exact g3.1.1
 obtain ⟨rfl, rfl, rfl⟩ := five_parts hn
 have hK : K = [] := List.eq_nil_of_length_eq_zero ((wfT_eq _).1 hw).1
 subst hK
 exact .ok C L (cp_names hC (fun p hp => (hname p hp).1)) hlen (fun e => hne (by subst e; exact List.eq_nil_of_length_eq_zero hrl.symm)) hrl.symm hmp hm
end Go.Proofs.YteimbjamnfkapaaGreatDoor
/- Plain mathematics of names: how long what is read is. -/
namespace Go.Proofs.YteimbjamnfkapaaGreatDoor
open Go.RowKit
theorem esc_ge (k : List UInt8) : k.length ≤ (esc k).length := by
 unfold esc
 induction k with
 | nil => simp
 | cons b l ih =>
  rw [List.flatMap_cons, List.length_append, List.length_cons]
  have : 1 ≤ (escB b).length := by
   unfold escB
   repeat' split
   all_goals simp
  omega
theorem keyT_ge (k : List UInt8) : k.length ≤ (keyT k).length := by
 unfold keyT
 have := esc_ge k
 split
 ·rw [List.length_append]; omega
 ·exact this
theorem textP_cnt : ∀ (p : List PStep), p.length ≤ (textP p).length
 | [] => Nat.zero_le _
 | s :: p => by
  have := textP_cnt p
  unfold textP at this ⊢
  rw [List.flatMap_cons, List.length_append, List.length_cons, List.length_cons]
  omega
theorem textP_at : ∀ (p : List PStep) (s : PStep), s ∈ p → (stepT s).length + 1 ≤ (textP p).length
 | [], s, h => by simp at h
 | a :: p, s, h => by
  unfold textP
  rw [List.flatMap_cons, List.length_append, List.length_cons]
  rcases List.mem_cons.1 h with rfl | h
  ·omega
  ·have := textP_at p s h
   unfold textP at this
   omega
theorem prs_small {c : ByteArray} {p : List PStep} (h : prsN c = some p) (hc : c.size ≤ 999000) : p.length ≤ c.size + 1 ∧ ∀ s ∈ p, OkS s := by
 obtain ⟨h1, h2⟩ := parse_sound h
 have hl : (textP p).length = c.size + 1 := by rw [h1, List.length_cons]; rfl
 refine ⟨by have := textP_cnt p; omega, fun s hs => ?_⟩
 have h3 := textP_at p s hs
 rcases h2 s hs with ⟨-, b, d, e⟩ | ⟨a, b⟩
 ·refine ⟨by rw [b]; decide, by omega, by omega⟩
 ·have h4 : stepT s = keyT s.key.data.toList := by unfold stepT; rw [if_neg (by rw [a]; decide)]
  have h5 := keyT_ge s.key.data.toList
  rw [h4] at h3
  have h6 : s.key.data.toList.length = s.key.size := rfl
  exact ⟨by omega, by omega, by omega⟩
end Go.Proofs.YteimbjamnfkapaaGreatDoor
/- UnflatBack, walked (under way). -/
namespace Go.Proofs.YteimbjamnfkapaaGreatDoor
open Go.RowKit
theorem hv_get : ∀ (p : List PStep) {w : World} {T u : VT} {x y : Value}, HV w T x y → getP T p = some u → ∃ x' y', HV w u x' y'
 | [], w, T, u, x, y, h, hu => by simp only [getP, Option.some.injEq] at hu; subst hu; exact ⟨x, y, h⟩
 | s :: p, w, T, u, x, y, h, hu => by
  obtain ⟨t, ht, hg⟩ := get_kid hu
  obtain ⟨al, bl, f, g, p', q, oL, oM, cL, cM, -, -, -, -, -, -, -, -, -, -, -, -, -, rL, rM, -, -⟩ := h.parts
  rcases ht with ⟨i, hi⟩ | ⟨i, hi⟩
  ·exact hv_get p (rL i t hi) hg
  ·exact hv_get p (rM i t hi) hg
theorem hv_nwfR {w : World} {T : VT} {x y : Value} (h : HV w T x y) : (Lit.int .i64 T.nm).wf = true := by
 obtain ⟨_, _, _, _, _, _, _, _, _, _, -, -, -, -, -, -, -, -, -, -, -, -, -, -, -, -, h⟩ := h.parts
 exact h
theorem leaf_ok {w : World} {t : VT} {x y : Value} (hv : HV w t x y) (hp : plainT t = true) (hw : wfT t) (hz : szT t ≤ 1000000000) : ∀ z ∈ lfT t [], CelOk z.2 := fun z hzm => by
 obtain ⟨r, hr⟩ := lf_get (szT t) (T := t) (Nat.le_refl _) hp hw hz [] z.1 z.2 hzm
 obtain ⟨x', y', hu⟩ := hv_get r hv hr.g
 obtain ⟨_, _, _, _, _, _, _, _, _, _, -, -, -, -, -, -, hK, -⟩ := hu.parts
 have := nwf_bd (hv_nwfR hu)
 exact ⟨leaf_cel hr.b hr.pl, hK, this⟩
theorem lists_ok {w : World} {T : VT} {x y : Value} (hv : HV w T x y) (hm : mayB 0 1 T = true) (hw : wfT T) : ∀ t ∈ T.ls, ∀ z ∈ lfT t [], CelOk z.2 := fun t ht => by
 obtain ⟨i, hi⟩ := List.getElem?_of_mem ht
 obtain ⟨h1, h2, h3⟩ := good_sz hm
 have hsz := szT_ls T i t hi
 obtain ⟨al, bl, f, g, p', q, oL, oM, cL, cM, -, -, -, -, -, -, -, -, -, -, -, -, -, rL, -⟩ := hv.parts
 exact leaf_ok (rL i t hi) (plain_ls h3 hi) ((wfL_get _).1 ((wfT_eq T).1 hw).2.1 i t hi) (by omega)
end Go.Proofs.YteimbjamnfkapaaGreatDoor
