
import Derived.Test.YtjcgkihkjjaefaaGreatDoorHMathFg
import Derived.Test.YtjcgkihkjjaefaaGreatDoorHFlL
/- Plain mathematics of a table: each leaf's path once; a row's cells that are not empty are as many as the leaves; a head's names are paths' texts. -/
namespace Go.Proofs.YtjcgkihkjjaefaaGreatDoor
open Go.RowKit

theorem nd_app {α : Type} {A B : List α} (h1 : A.Nodup) (h2 : B.Nodup) (h : ∀ a ∈ A, a ∉ B) : (A ++ B).Nodup := by
  rw [List.nodup_append]
  exact ⟨h1, h2, fun a ha b hb e => h a ha (e ▸ hb)⟩
theorem lfL_nd : ∀ (r : List VT) (i : Nat) (p : List PStep), (∀ (j : Nat) (t : VT), r[j]? = some t → ((lfT t (p ++ [lpl (i + j)])).map (·.1)).Nodup ∧ ∀ z ∈ lfT t (p ++ [lpl (i + j)]), ∃ s, z.1 = p ++ [lpl (i + j)] ++ s) → ((lfL r i p).map (·.1)).Nodup
  | [], _, _, _ => by simp [lfL]
  | a :: r, i, p, h => by
    have h0 := h 0 a rfl
    have hr : ∀ (j : Nat) (t : VT), r[j]? = some t → ((lfT t (p ++ [lpl (i + 1 + j)])).map (·.1)).Nodup ∧ ∀ z ∈ lfT t (p ++ [lpl (i + 1 + j)]), ∃ s, z.1 = p ++ [lpl (i + 1 + j)] ++ s := fun j t ht => by
      have := h (j + 1) t (by simpa using ht)
      rwa [show i + (j + 1) = i + 1 + j by omega] at this
    rw [lfL, List.map_append]
    refine nd_app h0.1 (lfL_nd r (i + 1) p hr) (fun q hq hq2 => ?_)
    obtain ⟨z, hz, rfl⟩ := List.mem_map.1 hq
    obtain ⟨z', hz', e⟩ := List.mem_map.1 hq2
    obtain ⟨j, t, h1, h2⟩ := mem_lfL r (i + 1) p z' hz'
    obtain ⟨s1, e1⟩ := h0.2 z hz
    obtain ⟨s2, e2⟩ := (hr j t h1).2 z' h2
    rw [e1, e2, List.append_assoc, List.append_assoc] at e
    have := List.append_cancel_left e
    simp only [List.cons_append, List.nil_append, List.cons.injEq] at this
    have := congrArg PStep.at_ this.1
    simp only [lpl] at this
    omega
theorem lfM_nd : ∀ (r : List VT) (K : List ByteArray) (p : List PStep), K.length = r.length → Apart K → (∀ (j : Nat) (t : VT) (c : ByteArray), r[j]? = some t → K[j]? = some c → ((lfT t (p ++ [lky c])).map (·.1)).Nodup ∧ ∀ z ∈ lfT t (p ++ [lky c]), ∃ s, z.1 = p ++ [lky c] ++ s) → ((lfM r K p).map (·.1)).Nodup
  | [], _, _, _, _, _ => by simp [lfM]
  | a :: r, [], p, hl, _, _ => by simp at hl
  | a :: r, c :: K, p, hl, ha, h => by
    have h0 := h 0 a c rfl rfl
    have hr : ∀ (j : Nat) (t : VT) (d : ByteArray), r[j]? = some t → K[j]? = some d → ((lfT t (p ++ [lky d])).map (·.1)).Nodup ∧ ∀ z ∈ lfT t (p ++ [lky d]), ∃ s, z.1 = p ++ [lky d] ++ s := fun j t d ht hd => h (j + 1) t d (by simpa using ht) (by simpa using hd)
    have ha' : Apart K := fun i j d hi hj => by
      have := ha (i + 1) (j + 1) d (by simpa using hi) (by simpa using hj)
      omega
    rw [lfM, List.map_append]
    refine nd_app h0.1 (lfM_nd r K p (by simpa using hl) ha' hr) (fun q hq hq2 => ?_)
    obtain ⟨z, hz, rfl⟩ := List.mem_map.1 hq
    obtain ⟨z', hz', e⟩ := List.mem_map.1 hq2
    obtain ⟨j, t, d, h1, hd, h2⟩ := mem_lfM r K p z' (by simpa using hl) hz'
    obtain ⟨s1, e1⟩ := h0.2 z hz
    obtain ⟨s2, e2⟩ := (hr j t d h1 hd).2 z' h2
    rw [e1, e2, List.append_assoc, List.append_assoc] at e
    have := List.append_cancel_left e
    simp only [List.cons_append, List.nil_append, List.cons.injEq] at this
    have := congrArg PStep.key this.1
    simp only [lky] at this
    subst this
    have := ha 0 (j + 1) d rfl (by simpa using hd)
    omega
theorem lf_nd : ∀ (N : Nat) {T : VT}, szT T ≤ N → plainT T = true → wfT T → szT T ≤ 1000000000 → ∀ (p : List PStep), ((lfT T p).map (·.1)).Nodup
  | 0, T, hN, _, _, _, _ => by have := szT_pos T; omega
  | N + 1, T, hN, hp, hw, hz, p => by
    have hwf := (wfT_eq T).1 hw
    rw [lfT_at]
    split
    · refine lfL_nd _ _ _ (fun j t ht => ?_)
      have hs := szT_ls T j t ht
      have hpt := plain_ls hp ht
      have hwt := (wfL_get _).1 hwf.2.1 j t ht
      refine ⟨lf_nd N (T := t) (by omega) hpt hwt (by omega) _, fun z hz => ?_⟩
      obtain ⟨r, hr⟩ := lf_get (szT t) (T := t) (Nat.le_refl _) hpt hwt (by omega) _ z.1 z.2 hz
      exact ⟨r, hr.e⟩
    · split
      · rename_i h6
        refine lfM_nd _ _ _ hwf.1 (keys_apart (node_keys hp h6.1)) (fun j t c ht hc => ?_)
        have hs := szT_vs T j t ht
        have hpt := plain_vs hp ht
        have hwt := (wfL_get _).1 hwf.2.2 j t ht
        refine ⟨lf_nd N (T := t) (by omega) hpt hwt (by omega) _, fun z hz => ?_⟩
        obtain ⟨r, hr⟩ := lf_get (szT t) (T := t) (Nat.le_refl _) hpt hwt (by omega) _ z.1 z.2 hz
        exact ⟨r, hr.e⟩
      · simp
/-- a leaf's cell is not empty -/
theorem cel_some {t : VT} (hb : t.ls = [] ∧ t.vs = []) (hp : plainT t = true) : (cellP t).toList.isEmpty = false := by
  unfold cellP
  rw [if_pos (leaf_cel hb hp)]
  refine emp_mk_no _ ?_
  rw [plainT_eq, Bool.and_eq_true, Bool.and_eq_true] at hp
  have hnode := hp.1.1
  unfold nodeB nodeC at hnode
  unfold celW celS
  by_cases h1 : t.kd = 1
  · rw [if_pos h1]; split <;> simp
  rw [if_neg h1]
  by_cases h2 : t.kd = 2
  · rw [if_pos h2]
    intro h
    have := Lib.itoa_length_le t.nm
    have h9 := txt_form t.nm
    rw [h] at h9
    exact absurd h9.symm (by rw [List.append_eq_nil_iff]; exact fun h => natD_ne _ h.2)
  rw [if_neg h2]
  by_cases h3 : t.kd = 3
  · rw [if_pos h3]
    simp [h3] at hnode
    intro h
    have := hnode.1.1.2.1
    rw [h] at this
    exact absurd this (by decide)
  rw [if_neg h3]
  by_cases h4 : t.kd = 4
  · rw [if_pos h4]
    unfold cstL cplB
    split
    · rename_i h
      simp only [Bool.and_eq_true] at h
      intro e
      rw [e] at h
      simp at h
    · simp
  rw [if_neg h4]
  by_cases h7 : t.kd = 7
  · rw [if_pos h7]; simp
  rw [if_neg h7]
  split
  · simp
  · split <;> simp
/-- cells that are not empty -/
def cntF (R : List ByteArray) : Nat := R.countP (fun c => !c.toList.isEmpty)
theorem cnt_set {R : List ByteArray} {i : Nat} {c : ByteArray} (h : R[i]? = some ⟨#[]⟩) (hc : c.toList.isEmpty = false) : cntF (R.set i c) = cntF R + 1 := by
  obtain ⟨hi, he⟩ := List.getElem?_eq_some_iff.1 h
  unfold cntF
  rw [List.countP_set hi, he, hc]
  simp [Lib.toList_data]
theorem cnt_row : ∀ (l : List (List PStep × VT)) (C : List (List PStep)) (R : List ByteArray), Good3 C → R.length = C.length → (l.map (·.1)).Nodup → (∀ e ∈ l, e.1 ∈ C ∧ (cellP e.2).toList.isEmpty = false ∧ R[posC C e.1]? = some ⟨#[]⟩) → cntF (rowF l C R) = cntF R + l.length
  | [], _, _, _, _, _, _ => rfl
  | e :: l, C, R, hC, hR, hn, h => by
    show cntF (rowF l C (R.set (posC C e.1) (cellP e.2))) = _
    obtain ⟨h1, h2, h3⟩ := h e (by simp)
    rw [List.map_cons, List.nodup_cons] at hn
    rw [cnt_row l C _ hC (by rw [List.length_set]; exact hR) hn.2 (fun e' he' => ?_), cnt_set h3 h2, List.length_cons]
    · omega
    · obtain ⟨k1, k2, k3⟩ := h e' (by simp [he'])
      refine ⟨k1, k2, ?_⟩
      rw [List.getElem?_set_ne (fun hp => ?_)]
      · exact k3
      · have a1 := pos_in hC h1
        have a2 := pos_in hC k1
        rw [hp, a2] at a1
        injection a1 with a1
        exact hn.1 (List.mem_map.2 ⟨e', he', a1⟩)
theorem cnt_zero (n : Nat) : cntF (List.replicate n ⟨#[]⟩) = 0 := by
  unfold cntF
  rw [List.countP_eq_zero]
  intro c hc
  rw [List.mem_replicate] at hc
  rw [hc.2]
  simp [Lib.toList_data]
theorem flat_good {T : VT} (h : mayB 0 1 T = true) (hw : wfT T) : Good3 (flatC T) := colF_good _ _ Good3.nil (fun e he => by
  obtain ⟨l, h1, h2⟩ := List.mem_flatten.1 he
  exact lom_frm h hw l h1 e h2)
theorem flat_mem {T : VT} (h : mayB 0 1 T = true) (hw : wfT T) {q : List PStep} : q ∈ flatC T ↔ ∃ e ∈ (flatX T).flatten, q = e.1 := by
  show q ∈ colF _ [] ↔ _
  rw [colF_mem _ _ _ Good3.nil (fun e he => by
    obtain ⟨l, h1, h2⟩ := List.mem_flatten.1 he
    exact lom_frm h hw l h1 e h2)]
  simp
/-- a row's cells that are not empty are as many as the map's leaves -/
theorem row_cnt {T t : VT} (h : mayB 0 1 T = true) (hw : wfT T) {i : Nat} (hi : T.ls[i]? = some t) : ∃ r, (flatW T)[i]? = some r ∧ cntF r = (lfT t []).length := by
  obtain ⟨h1, h2, h3⟩ := good_sz h
  have hsz := szT_ls T i t hi
  have hpt := plain_ls h3 hi
  have hwt := (wfL_get _).1 ((wfT_eq T).1 hw).2.1 i t hi
  refine ⟨rowM (lfT t []) (flatC T), by unfold flatW flatX; rw [List.getElem?_map, List.getElem?_map, hi]; rfl, ?_⟩
  unfold rowM
  have hG := flat_good h hw
  rw [cnt_row _ _ _ hG (by simp) (lf_nd _ (Nat.le_refl _) hpt hwt (by omega) _) (fun e he => ?_), cnt_zero, Nat.zero_add]
  obtain ⟨r, hr⟩ := lf_get (szT t) (T := t) (Nat.le_refl _) hpt hwt (by omega) _ e.1 e.2 he
  have hm : e.1 ∈ flatC T := (flat_mem h hw).2 ⟨e, List.mem_flatten.2 ⟨_, List.mem_map.2 ⟨t, List.mem_of_getElem? hi, rfl⟩, he⟩, rfl⟩
  refine ⟨hm, cel_some hr.b hr.pl, ?_⟩
  have := lt_of_some (pos_in hG hm)
  rw [List.getElem?_replicate, if_pos this]
/-- a column: its name is its path's text, less the bar -/
theorem col_name {T : VT} (hl : lomB T = true) (hw : wfT T) {p : List PStep} (hp : p ∈ flatC T) : 47 :: (nmP p).data.toList = textP p ∧ FrmP p := by
  obtain ⟨-, h, hk⟩ := lom_parts hl
  have hG := flat_good h hw
  refine ⟨?_, hG.f p hp⟩
  obtain ⟨e, he, rfl⟩ := (flat_mem h hw).1 hp
  obtain ⟨l, h1, h2⟩ := List.mem_flatten.1 he
  obtain ⟨t, ht, rfl⟩ := List.mem_map.1 h1
  obtain ⟨h6, hv⟩ := hk t ht
  have hne : e.1 ≠ [] := by
    obtain ⟨i, hi⟩ := List.getElem?_of_mem ht
    obtain ⟨-, -, h3⟩ := good_sz h
    have hpt := plain_ls h3 hi
    have hwt := (wfL_get _).1 ((wfT_eq T).1 hw).2.1 i t hi
    have hwf := (wfT_eq t).1 hwt
    have hsz := szT_ls T i t hi
    obtain ⟨g1, -, -⟩ := good_sz h
    rw [lfT_at, if_neg (by omega), if_pos ⟨h6, hv⟩] at h2
    obtain ⟨j, u, c, a1, a2, a3⟩ := mem_lfM _ _ _ _ hwf.1 h2
    have hsu := szT_vs t j u a1
    obtain ⟨r, hr⟩ := lf_get (szT u) (T := u) (Nat.le_refl _) (plain_vs hpt a1) ((wfL_get _).1 hwf.2.2 j u a1) (by omega) _ e.1 e.2 a3
    rw [hr.e]; simp
  cases hc : e.1 with
  | nil => exact absurd hc hne
  | cons s q =>
    unfold nmP
    rw [mkS_list]
    simp [textP]
end Go.Proofs.YtjcgkihkjjaefaaGreatDoor
