import Derived.Test.YteimbjamnfkapaaGreatDoorCMathFg
import Derived.Test.YteimbjamnfkapaaGreatDoorCRefMake
import Derived.Test.YteimbjamnfkapaaGreatDoorCUnA
/- flat.Flat, walked: what is no list of maps; too many maps; and the rest. -/
namespace Go.Proofs.YteimbjamnfkapaaGreatDoor
open Go.RowKit
theorem pos_in {C : List (List PStep)} {p : List PStep} (h : Good3 C) (hp : p ∈ C) : C[posC C p]? = some p := by
 obtain ⟨i, hi⟩ := List.getElem?_of_mem hp
 have hil := lt_of_some hi
 rcases Nat.lt_trichotomy i (posC C p) with h1 | h1 | h1
 ·have := posC_lt C p i p h1 hi
  rw [cp_refl] at this; omega
 ·rw [← h1]; exact hi
 ·exfalso
  have hl : posC C p < C.length := by omega
  obtain ⟨_, rfl⟩ := List.getElem?_eq_some_iff.1 hi
  have h2 := (List.pairwise_iff_getElem.1 h.s) _ _ hl hil h1
  have h3 := posC_ge C _ _ (List.getElem?_eq_getElem hl)
  omega
theorem lom_parts {T : VT} (h : lomB T = true) : T.kd = 5 ∧ mayB 0 1 T = true ∧ ∀ t ∈ T.ls, t.kd = 6 ∧ 0 < t.vs.length := by
 unfold lomB at h
 simp only [Bool.and_eq_true, decide_eq_true_eq, List.all_eq_true] at h
 obtain ⟨⟨⟨h1, -⟩, h2⟩, h3⟩ := h
 refine ⟨h1, h2, fun t ht => ⟨(h3 t ht).1, ?_⟩⟩
 have := (h3 t ht).2
 cases hv : t.vs with
 | nil => rw [hv] at this; cases this
 | cons a r => simp
set_option maxRecDepth 100000 in
set_option maxHeartbeats 4000000 in
theorem flat_no (T : VT) (x y : Value) (w : World) (hT : HV w T x y) (hg : Glob w) (hl : lomB T = false) :
  Calls Tryz.prog 24 #[vv T x y] w (FlatPost T w) := by
 have HE := hid (show flatE T = 1 by unfold flatE; rw [if_pos hl])
 have HLM := hid (fun (X : World) (hX : Below w.heap.size w X) => lom_any T x y X (hT.onto hX) (hg.on hX))
 rw [hl] at HLM
 obtain ⟨o1, n1, c1, o2, n2, c2, rfl, rfl⟩ := hv_slices hT
 simp only [vv] at HLM ⊢
 clear hT hg hl
 go_enter Tryz.func24, Tryz.ntmps24
 go_wp2_with fail
 go_at_call 57
 refine (HLM.out _ (valloc_bel (valloc_bel (Below.refl _ _) _) _)).mono ?_
 rintro e w2 ⟨rfl, hb2⟩
 have R0 : Hid (Row w2 (w.heap.size + 1) 34 2) := hid (by have := box_row hb2; rwa [World.size_alloc] at this)
 have HB2 := hid (vonto (valloc_bel (valloc_bel (Below.refl w.heap.size w) _) _) hb2)
 clear hb2 HLM
 obtain ⟨u0, e0⟩ := R0.out.cell (o := 0) (by decide)
 obtain ⟨u1, e1⟩ := R0.out.cell (o := 1) (by decide)
 have z0 := R0.out.frozen
 go_wp2_with fail
 refine bodyPost_ret (v := .tuple #[.agg #[.slice none 0 0, .slice none 0 0], .int .i64 1]) (by simp [results, Tryz.results24, go_sem, e0, e1]) rfl (flatpost_no HE.out (by decide) rfl ?_)
 repeat (first | exact HB2.out | (refine vset_bel ?_ (by simp)))
set_option maxRecDepth 100000 in
set_option maxHeartbeats 4000000 in
theorem flat_many (T : VT) (x y : Value) (w : World) (hT : HV w T x y) (hg : Glob w) (hl : lomB T = true) (h512 : 512 < T.ls.length) :
  Calls Tryz.prog 24 #[vv T x y] w (FlatPost T w) := by
 have HE := hid (show flatE T = 2 by unfold flatE; rw [if_neg (by rw [hl]; decide), if_pos h512])
 have HLM := hid (fun (X : World) (hX : Below w.heap.size w X) => lom_any T x y X (hT.onto hX) (hg.on hX))
 rw [hl] at HLM
 obtain ⟨al, bl, f, g, p, q, oL, oM, cL, cM, rfl, rfl, -, -, hL3, hM3, hK, -, hlL, hlM, kL, kK, kM, rL, rM, -, -⟩ := hT.parts
 have h512' : ((512 : Int) < (T.ls.length : Int)) := by omega
 simp only [vv] at HLM ⊢
 clear hT hg hl hL3 hM3 kL kK kM rL rM hK
 go_enter Tryz.func24, Tryz.ntmps24
 go_wp2_with fail
 go_at_call 57
 refine (HLM.out _ (valloc_bel (valloc_bel (Below.refl _ _) _) _)).mono ?_
 rintro e w2 ⟨rfl, hb2⟩
 have R0 : Hid (Row w2 (w.heap.size + 1) 34 2) := hid (by have := box_row hb2; rwa [World.size_alloc] at this)
 have HB2 := hid (vonto (valloc_bel (valloc_bel (Below.refl w.heap.size w) _) _) hb2)
 have z3 : w2.cell? ⟨w.heap.size, 3, none⟩ = some (.slice oL T.ls.length cL) := keepCell hb2 (keepCell (valloc_bel (Below.refl _ _) _) (by simp))
 clear hb2 HLM
 obtain ⟨u0, e0⟩ := R0.out.cell (o := 0) (by decide)
 obtain ⟨u1, e1⟩ := R0.out.cell (o := 1) (by decide)
 have z0 := R0.out.frozen
 go_wp2_with fail
 refine bodyPost_ret (v := .tuple #[.agg #[.slice none 0 0, .slice none 0 0], .int .i64 2]) (by simp [results, Tryz.results24, go_sem, e0, e1]) rfl (flatpost_no HE.out (by decide) rfl ?_)
 repeat (first | exact HB2.out | (refine vset_bel ?_ (by simp)))
end Go.Proofs.YteimbjamnfkapaaGreatDoor
/- Plain mathematics of a table: each leaf's path once; a row's cells that are not empty are as many as the leaves; a head's names are paths' texts. -/
namespace Go.Proofs.YteimbjamnfkapaaGreatDoor
open Go.RowKit
theorem nd_app {α : Type} {A B : List α} (h1 : A.Nodup) (h2 : B.Nodup) (h : ∀ a ∈ A, a ∉ B) : (A ++ B).Nodup := by
 rw [List.nodup_append]
 exact ⟨h1, h2, fun a ha b hb e => h a ha (e ▸ hb)⟩
theorem lfL_nd : ∀ (r : List VT) (i : Nat) (p : List PStep), (∀ (j : Nat) (t : VT), r[j]? = some t → ((lfT t (p ++ [lpl (i + j)])).map (·.1)).Nodup ∧ ∀ z ∈ lfT t (p ++ [lpl (i + j)]), ∃ s, z.1 = p ++ [lpl (i + j)] ++ s) → ((lfL r i p).map (·.1)).Nodup
 | [], _, _, _ => by simp [lfL]
 | a :: r, i, p, h => by
  have h0 := h 0 a rfl
  have hr : ∀ (j : Nat) (t : VT), r[j]? = some t → ((lfT t (p ++ [lpl (i + 1 + j)])).map (·.1)).Nodup ∧ ∀ z ∈ lfT t (p ++ [lpl (i + 1 + j)]), ∃ s, z.1 = p ++ [lpl (i + 1 + j)] ++ s := fun j t ht => by
   have := h (j + 1) t (by simpa using ht)
   rwa [show i + (j + 1) = i + 1 + j by omega] at this
  rw [lfL, List.map_append]
  refine nd_app h0.1 (lfL_nd r (i + 1) p hr) (fun q hq hq2 => ?_)
  obtain ⟨z, hz, rfl⟩ := List.mem_map.1 hq
  obtain ⟨z', hz', e⟩ := List.mem_map.1 hq2
  obtain ⟨j, t, h1, h2⟩ := mem_lfL r (i + 1) p z' hz'
  obtain ⟨s1, e1⟩ := h0.2 z hz
  obtain ⟨s2, e2⟩ := (hr j t h1).2 z' h2
  rw [e1, e2, List.append_assoc, List.append_assoc] at e
  have := List.append_cancel_left e
  simp only [List.cons_append, List.nil_append, List.cons.injEq] at this
  have := congrArg PStep.at_ this.1
  simp only [lpl] at this
  omega
theorem lfM_nd : ∀ (r : List VT) (K : List ByteArray) (p : List PStep), K.length = r.length → Apart K → (∀ (j : Nat) (t : VT) (c : ByteArray), r[j]? = some t → K[j]? = some c → ((lfT t (p ++ [lky c])).map (·.1)).Nodup ∧ ∀ z ∈ lfT t (p ++ [lky c]), ∃ s, z.1 = p ++ [lky c] ++ s) → ((lfM r K p).map (·.1)).Nodup
 | [], _, _, _, _, _ => by simp [lfM]
 | a :: r, [], p, hl, _, _ => by simp at hl
 | a :: r, c :: K, p, hl, ha, h => by
  have h0 := h 0 a c rfl rfl
  have hr : ∀ (j : Nat) (t : VT) (d : ByteArray), r[j]? = some t → K[j]? = some d → ((lfT t (p ++ [lky d])).map (·.1)).Nodup ∧ ∀ z ∈ lfT t (p ++ [lky d]), ∃ s, z.1 = p ++ [lky d] ++ s := fun j t d ht hd => h (j + 1) t d (by simpa using ht) (by simpa using hd)
  have ha' : Apart K := fun i j d hi hj => by
   have := ha (i + 1) (j + 1) d (by simpa using hi) (by simpa using hj)
   omega
  rw [lfM, List.map_append]
  refine nd_app h0.1 (lfM_nd r K p (by simpa using hl) ha' hr) (fun q hq hq2 => ?_)
  obtain ⟨z, hz, rfl⟩ := List.mem_map.1 hq
  obtain ⟨z', hz', e⟩ := List.mem_map.1 hq2
  obtain ⟨j, t, d, h1, hd, h2⟩ := mem_lfM r K p z' (by simpa using hl) hz'
  obtain ⟨s1, e1⟩ := h0.2 z hz
  obtain ⟨s2, e2⟩ := (hr j t d h1 hd).2 z' h2
  rw [e1, e2, List.append_assoc, List.append_assoc] at e
  have := List.append_cancel_left e
  simp only [List.cons_append, List.nil_append, List.cons.injEq] at this
  have := congrArg PStep.key this.1
  simp only [lky] at this
  subst this
  have := ha 0 (j + 1) d rfl (by simpa using hd)
  omega
theorem lf_nd : ∀ (N : Nat) {T : VT}, szT T ≤ N → plainT T = true → wfT T → szT T ≤ 1000000000 → ∀ (p : List PStep), ((lfT T p).map (·.1)).Nodup
 | 0, T, hN, _, _, _, _ => by have := szT_pos T; omega
 | N + 1, T, hN, hp, hw, hz, p => by
  have hwf := (wfT_eq T).1 hw
  rw [lfT_at]
  split
  ·refine lfL_nd _ _ _ (fun j t ht => ?_)
   have hs := szT_ls T j t ht
   have hpt := plain_ls hp ht
   have hwt := (wfL_get _).1 hwf.2.1 j t ht
   refine ⟨lf_nd N (T := t) (by omega) hpt hwt (by omega) _, fun z hz => ?_⟩
   obtain ⟨r, hr⟩ := lf_get (szT t) (T := t) (Nat.le_refl _) hpt hwt (by omega) _ z.1 z.2 hz
   exact ⟨r, hr.e⟩
  ·split
   ·rename_i h6
    refine lfM_nd _ _ _ hwf.1 (keys_apart (node_keys hp h6.1)) (fun j t c ht hc => ?_)
    have hs := szT_vs T j t ht
    have hpt := plain_vs hp ht
    have hwt := (wfL_get _).1 hwf.2.2 j t ht
    refine ⟨lf_nd N (T := t) (by omega) hpt hwt (by omega) _, fun z hz => ?_⟩
    obtain ⟨r, hr⟩ := lf_get (szT t) (T := t) (Nat.le_refl _) hpt hwt (by omega) _ z.1 z.2 hz
    exact ⟨r, hr.e⟩
   ·simp
def cntF (R : List ByteArray) : Nat := R.countP (fun c => !c.toList.isEmpty)
theorem flat_good {T : VT} (h : mayB 0 1 T = true) (hw : wfT T) : Good3 (flatC T) := colF_good _ _ Good3.nil (fun e he => by
 obtain ⟨l, h1, h2⟩ := List.mem_flatten.1 he
 exact lom_frm h hw l h1 e h2)
theorem flat_mem {T : VT} (h : mayB 0 1 T = true) (hw : wfT T) {q : List PStep} : q ∈ flatC T ↔ ∃ e ∈ (flatX T).flatten, q = e.1 := by
 show q ∈ colF _ [] ↔ _
 rw [colF_mem _ _ _ Good3.nil (fun e he => by
  obtain ⟨l, h1, h2⟩ := List.mem_flatten.1 he
  exact lom_frm h hw l h1 e h2)]
 simp
theorem col_name {T : VT} (hl : lomB T = true) (hw : wfT T) {p : List PStep} (hp : p ∈ flatC T) : 47 :: (nmP p).data.toList = textP p ∧ FrmP p := by
 obtain ⟨-, h, hk⟩ := lom_parts hl
 have hG := flat_good h hw
 refine ⟨?_, hG.f p hp⟩
 obtain ⟨e, he, rfl⟩ := (flat_mem h hw).1 hp
 obtain ⟨l, h1, h2⟩ := List.mem_flatten.1 he
 obtain ⟨t, ht, rfl⟩ := List.mem_map.1 h1
 obtain ⟨h6, hv⟩ := hk t ht
 have hne : e.1 ≠ [] := by
  obtain ⟨i, hi⟩ := List.getElem?_of_mem ht
  obtain ⟨-, -, h3⟩ := good_sz h
  have hpt := plain_ls h3 hi
  have hwt := (wfL_get _).1 ((wfT_eq T).1 hw).2.1 i t hi
  have hwf := (wfT_eq t).1 hwt
  have hsz := szT_ls T i t hi
  obtain ⟨g1, -, -⟩ := good_sz h
  rw [lfT_at, if_neg (by omega), if_pos ⟨h6, hv⟩] at h2
  obtain ⟨j, u, c, a1, a2, a3⟩ := mem_lfM _ _ _ _ hwf.1 h2
  have hsu := szT_vs t j u a1
  obtain ⟨r, hr⟩ := lf_get (szT u) (T := u) (Nat.le_refl _) (plain_vs hpt a1) ((wfL_get _).1 hwf.2.2 j u a1) (by omega) _ e.1 e.2 a3
  rw [hr.e]; simp
 cases hc : e.1 with
 | nil => exact absurd hc hne
 | cons s q =>
  unfold nmP
  rw [mkS_list]
  simp [textP]
end Go.Proofs.YteimbjamnfkapaaGreatDoor
/- Plain mathematics of leaves that make a tree: the tree is one. -/
namespace Go.Proofs.YteimbjamnfkapaaGreatDoor
open Go.RowKit
def Cn (s : PStep) : Prop := (s.place = true ∧ s.key = ⟨#[]⟩ ∧ 0 ≤ s.at_) ∨ (s.place = false ∧ s.at_ = 0)
theorem Cn.of {s : PStep} (h : Frm s) : Cn s := by
 rcases h with ⟨a, b, c, -⟩ | ⟨a, b⟩
 ·exact .inl ⟨a, b, c⟩
 ·exact .inr ⟨a, b⟩
theorem Cn.cases {s : PStep} (h : Cn s) : (∃ i : Nat, s = lpl i) ∨ ∃ c, s = lky c := by
 obtain ⟨k, a, p⟩ := s
 rcases h with ⟨h1, h2, h3⟩ | ⟨h1, h2⟩
 ·simp only at h1 h2 h3
  subst h1 h2
  exact .inl ⟨a.toNat, by unfold lpl; rw [Int.toNat_of_nonneg h3]⟩
 ·simp only at h1 h2
  subst h1 h2
  exact .inr ⟨k, rfl⟩
theorem cn_lpl (i : Nat) : Cn (lpl i) := .inl ⟨rfl, rfl, by unfold lpl; simp⟩
theorem cn_lky (c : ByteArray) : Cn (lky c) := .inr ⟨rfl, rfl⟩
def LeafAt (T : VT) (r : List PStep) (t : VT) : Prop := getP T r = some t ∧ t.ls = [] ∧ t.vs = []
inductive Nrm : VT → Prop
 | leaf {T : VT} (h1 : T.ls = []) (h2 : T.vs = []) : Nrm T
 | list {L : List VT} (h : L ≠ []) (hs : ∀ t ∈ L, Nrm t) : Nrm (.mk 5 0 ⟨#[]⟩ L [] [])
 | map {K : List ByteArray} {V : List VT} (h : V ≠ []) (hl : K.length = V.length) (hk : Strict K) (hs : ∀ t ∈ V, Nrm t) : Nrm (.mk 6 0 ⟨#[]⟩ [] K V)
theorem getP_cons (T : VT) (s : PStep) (p : List PStep) : getP T (s :: p) = ((idxT T s).bind (kidT T s)).bind fun t => getP t p := by
 simp only [getP]
 cases (idxT T s).bind (kidT T s) <;> rfl
theorem get_lpl (n : Int) (s : ByteArray) (L : List VT) (K : List ByteArray) (V : List VT) (i : Nat) (r : List PStep) : getP (.mk 5 n s L K V) (lpl i :: r) = (L[i]?).bind fun t => getP t r := by
 rw [getP_cons]
 by_cases h : i < L.length
 ·have e1 : idxT (.mk 5 n s L K V) (lpl i) = some i := by
   unfold idxT
   rw [if_pos (show (lpl i).place = true from rfl), if_pos ⟨rfl, Int.natCast_nonneg i, Int.ofNat_lt.2 h⟩]
   rfl
  have e2 : kidT (.mk 5 n s L K V) (lpl i) i = L[i]? := by unfold kidT; rw [if_pos (show (lpl i).place = true from rfl)]; rfl
  rw [e1, Option.bind_some, e2]
 ·have e1 : idxT (.mk 5 n s L K V) (lpl i) = none := by
   unfold idxT
   rw [if_pos (show (lpl i).place = true from rfl), if_neg (fun hh => h (Int.ofNat_lt.1 hh.2.2))]
  rw [e1, List.getElem?_eq_none (by omega)]
  rfl
theorem get_lpl_no {k : Int} (hk : ¬ k = 5) (n : Int) (s : ByteArray) (L : List VT) (K : List ByteArray) (V : List VT) (i : Nat) (r : List PStep) : getP (.mk k n s L K V) (lpl i :: r) = none := by
 have e1 : idxT (.mk k n s L K V) (lpl i) = none := by
  unfold idxT
  rw [if_pos (show (lpl i).place = true from rfl), if_neg (fun hh => hk hh.1)]
 rw [getP_cons, e1]; rfl
theorem lky_pl (c : ByteArray) : ¬ (lky c).place = true := fun h => Bool.noConfusion (show false = true from h)
theorem get_lky_no {k : Int} (hk : ¬ k = 6) (n : Int) (s : ByteArray) (L : List VT) (K : List ByteArray) (V : List VT) (c : ByteArray) (r : List PStep) : getP (.mk k n s L K V) (lky c :: r) = none := by
 have e1 : idxT (.mk k n s L K V) (lky c) = none := by
  unfold idxT
  rw [if_neg (lky_pl c), if_neg (show ¬ (VT.mk k n s L K V).kd = 6 from hk)]
 rw [getP_cons, e1]; rfl
theorem strict_ne {K : List ByteArray} (h : Strict K) {i j : Nat} {a : ByteArray} (hi : K[i]? = some a) (hj : K[j]? = some a) : i = j := by
 rcases Nat.lt_trichotomy i j with h1 | h1 | h1
 ·have := h i j a a h1 hi hj; rw [ltB_irr] at this; cases this
 ·exact h1
 ·have := h j i a a h1 hj hi; rw [ltB_irr] at this; cases this
theorem idx_lky (n : Int) (s : ByteArray) (L : List VT) (K : List ByteArray) (V : List VT) (c : ByteArray) : idxT (.mk 6 n s L K V) (lky c) = firstI (keyIs c) K := by
 unfold idxT
 rw [if_neg (lky_pl c), if_pos (show (VT.mk 6 n s L K V).kd = 6 from rfl)]
 rfl
theorem get_lky (n : Int) (s : ByteArray) (L : List VT) {K : List ByteArray} {V : List VT} (hK : Strict K) {j : Nat} {c : ByteArray} {t : VT} (hj : K[j]? = some c) (ht : V[j]? = some t) (r : List PStep) : getP (.mk 6 n s L K V) (lky c :: r) = getP t r := by
 have e1 : firstI (keyIs c) K = some j := firstI_at (j := j) (c := c) hj (by unfold keyIs; simp) (fun i d hi hd => by
  cases hh : keyIs c d with
  | false => rfl
  | true =>
   unfold keyIs at hh
   have e2 : d = c := ba_eq (by simpa using hh)
   subst e2
   have := strict_ne hK hd hj
   omega)
 have e2 : kidT (.mk 6 n s L K V) (lky c) j = some t := by unfold kidT; rw [if_neg (lky_pl c)]; exact ht
 rw [getP_cons, idx_lky, e1, Option.bind_some, e2]
 rfl
theorem get_lky_out (n : Int) (s : ByteArray) (L : List VT) {K : List ByteArray} {V : List VT} {c : ByteArray} (hc : c ∉ K) (r : List PStep) : getP (.mk 6 n s L K V) (lky c :: r) = none := by
 have e1 : firstI (keyIs c) K = none := firstI_no (fun i d hd => by
  cases hh : keyIs c d with
  | false => rfl
  | true =>
   unfold keyIs at hh
   have e2 : d = c := ba_eq (by simpa using hh)
   subst e2
   exact absurd (List.mem_of_getElem? hd) hc)
 rw [getP_cons, idx_lky, e1]
 rfl
theorem nrm_leaf {T : VT} (h : Nrm T) : ∃ r t, (∀ s ∈ r, Cn s) ∧ LeafAt T r t := by
 induction h with
 | @leaf T h1 h2 => exact ⟨[], T, fun s hs => by simp at hs, rfl, h1, h2⟩
 | @list L h hs ih =>
  obtain ⟨a, l, rfl⟩ := List.exists_cons_of_ne_nil h
  obtain ⟨r, t, h1, h2, h3⟩ := ih a (by simp)
  refine ⟨lpl 0 :: r, t, fun s hs => ?_, ?_, h3⟩
  ·rcases List.mem_cons.1 hs with hs | hs
   ·rw [hs]; exact cn_lpl 0
   ·exact h1 s hs
  ·rw [get_lpl]; exact h2
 | @map K V h hl hk hs ih =>
  obtain ⟨a, l, rfl⟩ := List.exists_cons_of_ne_nil h
  obtain ⟨r, t, h1, h2, h3⟩ := ih a (by simp)
  cases K with
  | nil => simp at hl
  | cons c K =>
   refine ⟨lky c :: r, t, fun s hs => ?_, ?_, h3⟩
   ·rcases List.mem_cons.1 hs with hs | hs
    ·rw [hs]; exact cn_lky c
    ·exact h1 s hs
   ·rw [get_lky 0 _ _ hk (j := 0) rfl rfl]; exact h2
theorem strict_tail {a : ByteArray} {K : List ByteArray} (h : Strict (a :: K)) : Strict K := fun i j x y hij hx hy => h (i + 1) (j + 1) x y (by omega) (by simpa using hx) (by simpa using hy)
theorem strict_uniq : ∀ {A B : List ByteArray}, Strict A → Strict B → (∀ q, q ∈ A ↔ q ∈ B) → A = B
 | [], [], _, _, _ => rfl
 | [], b :: B, _, _, h => absurd ((h b).2 (by simp)) (by simp)
 | a :: A, [], _, _, h => absurd ((h a).1 (by simp)) (by simp)
 | a :: A, b :: B, hA, hB, h => by
  have h1 := strict_head hA
  have h2 := strict_head hB
  have hab : a = b := by
   rcases List.mem_cons.1 ((h a).1 (by simp)) with e | e
   ·exact e
   ·rcases List.mem_cons.1 ((h b).2 (by simp)) with e' | e'
    ·exact e'.symm
    ·have := ltB_trans _ _ _ (h1 b e') (h2 a e)
     rw [ltB_irr] at this; cases this
  subst hab
  rw [strict_uniq (strict_tail hA) (strict_tail hB) (fun q => ⟨fun hq => by
   rcases List.mem_cons.1 ((h q).1 (by simp [hq])) with e | e
   ·subst e; have := h1 q hq; rw [ltB_irr] at this; cases this
   ·exact e, fun hq => by
   rcases List.mem_cons.1 ((h q).2 (by simp [hq])) with e | e
   ·subst e; have := h2 q hq; rw [ltB_irr] at this; cases this
   ·exact e⟩)]
def AllCn (r : List PStep) : Prop := ∀ s ∈ r, Cn s
theorem AllCn.cons {s : PStep} {r : List PStep} (h : Cn s) (hr : AllCn r) : AllCn (s :: r) := fun x hx => by
 rcases List.mem_cons.1 hx with hx | hx
 ·rw [hx]; exact h
 ·exact hr x hx
theorem nrm_one {T : VT} (h : Nrm T) : ∀ {T' : VT}, Nrm T' → (∀ r t, AllCn r → (LeafAt T r t ↔ LeafAt T' r t)) → T = T' := by
 induction h with
 | @leaf T h1 h2 =>
  intro T' h' hh
  have := (hh [] T (fun s hs => by simp at hs)).1 ⟨rfl, h1, h2⟩
  have e := this.1
  simp only [getP, Option.some.injEq] at e
  exact e.symm
 | @list L hL hs ih =>
  intro T' h' hh
  cases h' with
  | leaf h1 h2 =>
   have := (hh [] T' (fun s hs => by simp at hs)).2 ⟨rfl, h1, h2⟩
   have e := this.1
   simp only [getP, Option.some.injEq] at e
   subst e
   exact absurd h1 hL
  | @map K V hV hl hk hs' =>
   obtain ⟨a, l, rfl⟩ := List.exists_cons_of_ne_nil hV
   cases K with
   | nil => simp at hl
   | cons c K =>
    obtain ⟨r, t, h3, h4, h5⟩ := nrm_leaf (hs' a (by simp))
    have := (hh (lky c :: r) t (AllCn.cons (cn_lky c) h3)).2 ⟨by rw [get_lky 0 _ _ hk (j := 0) rfl rfl]; exact h4, h5⟩
    have e := this.1
    rw [get_lky_no (by decide)] at e
    cases e
  | @list L' hL' hs' =>
   have key : ∀ (i : Nat) (t t' : VT), L[i]? = some t → L'[i]? = some t' → t = t' := fun i t t' ht ht' => ih t (List.mem_of_getElem? ht) (hs' t' (List.mem_of_getElem? ht')) (fun r u hr => by
    have := hh (lpl i :: r) u (AllCn.cons (cn_lpl i) hr)
    unfold LeafAt at this ⊢
    rw [get_lpl, get_lpl, ht, ht'] at this
    exact this)
   have e : L = L' := by
    apply List.ext_getElem?
    intro i
    cases h1 : L[i]? with
    | some t =>
     cases h2 : L'[i]? with
     | some t' => rw [key i t t' h1 h2]
     | none =>
      obtain ⟨r, u, h3, h4, h5⟩ := nrm_leaf (hs t (List.mem_of_getElem? h1))
      have := (hh (lpl i :: r) u (AllCn.cons (cn_lpl i) h3)).1 ⟨by rw [get_lpl, h1]; exact h4, h5⟩
      have e := this.1
      rw [get_lpl, h2] at e; cases e
    | none =>
     cases h2 : L'[i]? with
     | none => rfl
     | some t' =>
      obtain ⟨r, u, h3, h4, h5⟩ := nrm_leaf (hs' t' (List.mem_of_getElem? h2))
      have := (hh (lpl i :: r) u (AllCn.cons (cn_lpl i) h3)).2 ⟨by rw [get_lpl, h2]; exact h4, h5⟩
      have e := this.1
      rw [get_lpl, h1] at e; cases e
   rw [e]
 | @map K V hV hl hk hs ih =>
  intro T' h' hh
  cases h' with
  | leaf h1 h2 =>
   have := (hh [] T' (fun s hs => by simp at hs)).2 ⟨rfl, h1, h2⟩
   have e := this.1
   simp only [getP, Option.some.injEq] at e
   subst e
   exact absurd h2 hV
  | @list L' hL' hs' =>
   obtain ⟨a, l, rfl⟩ := List.exists_cons_of_ne_nil hL'
   obtain ⟨r, t, h3, h4, h5⟩ := nrm_leaf (hs' a (by simp))
   have := (hh (lpl 0 :: r) t (AllCn.cons (cn_lpl 0) h3)).2 ⟨by rw [get_lpl]; exact h4, h5⟩
   have e := this.1
   rw [get_lpl_no (by decide)] at e
   cases e
  | @map K' V' hV' hl' hk' hs' =>
   have some_of : ∀ {K : List ByteArray} {V : List VT}, K.length = V.length → ∀ {j : Nat} {c : ByteArray}, K[j]? = some c → ∃ t, V[j]? = some t := fun hl j c hj => ⟨_, List.getElem?_eq_getElem (by have := lt_of_some hj; omega)⟩
   have e : K = K' := strict_uniq hk hk' (fun q => ⟨fun hq => by
    obtain ⟨j, hj⟩ := List.getElem?_of_mem hq
    obtain ⟨t, ht⟩ := some_of hl hj
    obtain ⟨r, u, h3, h4, h5⟩ := nrm_leaf (hs t (List.mem_of_getElem? ht))
    have := (hh (lky q :: r) u (AllCn.cons (cn_lky q) h3)).1 ⟨by rw [get_lky 0 _ _ hk hj ht]; exact h4, h5⟩
    by_cases hm : q ∈ K'
    ·exact hm
    ·have e := this.1
     rw [get_lky_out 0 _ _ hm] at e; exact absurd e (by simp), fun hq => by
    obtain ⟨j, hj⟩ := List.getElem?_of_mem hq
    obtain ⟨t, ht⟩ := some_of hl' hj
    obtain ⟨r, u, h3, h4, h5⟩ := nrm_leaf (hs' t (List.mem_of_getElem? ht))
    have := (hh (lky q :: r) u (AllCn.cons (cn_lky q) h3)).2 ⟨by rw [get_lky 0 _ _ hk' hj ht]; exact h4, h5⟩
    by_cases hm : q ∈ K
    ·exact hm
    ·have e := this.1
     rw [get_lky_out 0 _ _ hm] at e; cases e⟩)
   subst e
   have e2 : V = V' := by
    apply List.ext_getElem?
    intro i
    rcases Nat.lt_or_ge i K.length with hi | hi
    ·obtain ⟨c, hc⟩ : ∃ c, K[i]? = some c := ⟨_, List.getElem?_eq_getElem hi⟩
     obtain ⟨t, ht⟩ := some_of hl hc
     obtain ⟨t', ht'⟩ := some_of hl' hc
     rw [ht, ht', ih t (List.mem_of_getElem? ht) (hs' t' (List.mem_of_getElem? ht')) (fun r u hr => by
      have := hh (lky c :: r) u (AllCn.cons (cn_lky c) hr)
      unfold LeafAt at this ⊢
      rw [get_lky 0 _ _ hk hc ht, get_lky 0 _ _ hk' hc ht'] at this
      exact this)]
    ·rw [List.getElem?_eq_none (by omega), List.getElem?_eq_none (by omega)]
   rw [e2]
def TreeOf (l : List (List PStep × VT)) (T : VT) : Prop := Nrm T ∧ ∀ r t, AllCn r → (LeafAt T r t ↔ (r, t) ∈ l)
theorem TreeOf.one {l : List (List PStep × VT)} {T T' : VT} (h : TreeOf l T) (h' : TreeOf l T') : T = T' := nrm_one h.1 h'.1 (fun r t hr => (h.2 r t hr).trans (h'.2 r t hr).symm)
end Go.Proofs.YteimbjamnfkapaaGreatDoor
/- Plain mathematics of leaves that make a tree: what clashes; lists without a gap; what Build says. -/
namespace Go.Proofs.YteimbjamnfkapaaGreatDoor
open Go.RowKit
def kdP (p : List PStep) (j : Nat) : Int := match p[j]? with
 | none => 1
 | some s => if s.place = true then 2 else 3
def clP : List PStep → List PStep → Bool
 | a :: p, b :: q => if a.place = b.place then (if a = b then clP p q else false) else true
 | _, _ => true
theorem kd_val (p : List PStep) (j : Nat) : kdP p j = 1 ∨ kdP p j = 2 ∨ kdP p j = 3 := by
 unfold kdP
 split
 ·exact .inl rfl
 ·split
  ·exact .inr (.inl rfl)
  ·exact .inr (.inr rfl)
theorem kd_one {p : List PStep} {j : Nat} (h : kdP p j = 1) : p.length ≤ j := by
 unfold kdP at h
 split at h
 ·rename_i h1; exact List.getElem?_eq_none_iff.1 h1
 ·split at h <;> cases h
theorem kd_cons (a : PStep) (p : List PStep) (j : Nat) : kdP (a :: p) (j + 1) = kdP p j := by unfold kdP; rw [List.getElem?_cons_succ]
theorem clP_iff : ∀ (p q : List PStep), clP p q = true ↔ ∃ j, j ≤ p.length ∧ j ≤ q.length ∧ p.take j = q.take j ∧ (kdP p j ≠ kdP q j ∨ kdP p j = 1)
 | [], q => by
  refine ⟨fun _ => ⟨0, Nat.le_refl _, Nat.zero_le _, rfl, .inr rfl⟩, fun _ => by cases q <;> rfl⟩
 | a :: p, [] => by
  refine ⟨fun _ => ⟨0, Nat.zero_le _, Nat.le_refl _, rfl, .inl ?_⟩, fun _ => rfl⟩
  show (if a.place = true then (2 : Int) else 3) ≠ 1
  split <;> decide
 | a :: p, b :: q => by
  unfold clP
  by_cases h1 : a.place = b.place
  ·rw [if_pos h1]
   by_cases h2 : a = b
   ·rw [if_pos h2, clP_iff p q]
    subst h2
    constructor
    ·rintro ⟨j, h3, h4, h5, h6⟩
     exact ⟨j + 1, by simp; omega, by simp; omega, by simp [h5], by rw [kd_cons, kd_cons]; exact h6⟩
    ·rintro ⟨j, h3, h4, h5, h6⟩
     cases j with
     | zero =>
      exfalso
      have e : kdP (a :: p) 0 = kdP (a :: q) 0 := rfl
      rcases h6 with h6 | h6
      ·exact h6 e
      ·have := kd_one h6; simp at this
     | succ j =>
      rw [kd_cons, kd_cons] at h6
      simp at h3 h4 h5
      exact ⟨j, h3, h4, h5, h6⟩
   ·rw [if_neg h2]
    constructor
    ·intro h; cases h
    ·rintro ⟨j, h3, h4, h5, h6⟩
     cases j with
     | zero =>
      exfalso
      have e : kdP (a :: p) 0 = kdP (b :: q) 0 := by unfold kdP; simp [h1]
      rcases h6 with h6 | h6
      ·exact h6 e
      ·have := kd_one h6; simp at this
     | succ j => simp at h5; exact absurd h5.1 h2
  ·rw [if_neg h1]
   refine ⟨fun _ => ⟨0, Nat.zero_le _, Nat.zero_le _, rfl, .inl ?_⟩, fun _ => rfl⟩
   unfold kdP
   simp only [List.getElem?_cons_zero]
   cases ha : a.place <;> cases hb : b.place <;> simp [ha, hb] at h1 ⊢
def Full (A : List Nat) : Prop := ∀ a ∈ A, ∀ k, k < a → k ∈ A
theorem full_lt {A : List Nat} (h : Full A) : ∀ a ∈ A, a < A.length := fun a ha => by
 have h1 : (List.range (a + 1)) ⊆ A := fun k hk => by
  rw [List.mem_range] at hk
  rcases Nat.lt_or_ge k a with h2 | h2
  ·exact h a ha k h2
  ·have : k = a := by omega
   subst this; exact ha
 have := List.Nodup.length_le_of_subset List.nodup_range h1
 rw [List.length_range] at this
 omega
theorem lt_full {A : List Nat} (hn : A.Nodup) (h : ∀ a ∈ A, a < A.length) : ∀ k, k < A.length → k ∈ A := fun k hk => by
 by_cases hm : k ∈ A
 ·exact hm
 ·exfalso
  have h1 : (k :: A) ⊆ List.range A.length := fun x hx => by
   rw [List.mem_range]
   rcases List.mem_cons.1 hx with hx | hx
   ·rw [hx]; exact hk
   ·exact h x hx
  have := List.Nodup.length_le_of_subset (List.nodup_cons.2 ⟨hm, hn⟩) h1
  rw [List.length_range, List.length_cons] at this
  omega
theorem full_iff {A : List Nat} (hn : A.Nodup) : Full A ↔ ∀ a ∈ A, a < A.length := ⟨full_lt, fun h a ha k hk => lt_full hn h k (by have := h a ha; omega)⟩
abbrev Lvs := List (List PStep × VT)
def PlaceAt (l : Lvs) (q : List PStep) (a : Int) : Prop := ∃ e ∈ l, ∃ s, q ++ [s] <+: e.1 ∧ s.at_ = a
def WholeAt (l : Lvs) (q : List PStep) : Prop := ∀ a, PlaceAt l q a → ∀ k : Int, 0 ≤ k → k < a → PlaceAt l q k
def GapAt (l : Lvs) (i : Nat) : Prop := ∃ e, l[i]? = some e ∧ ∃ q s, q ++ [s] <+: e.1 ∧ s.place = true ∧ ¬ WholeAt l q
def partsB (T : VT) : Bool := !(T.ls.isEmpty && T.vs.isEmpty)
def badE (l : Lvs) (i : Nat) : Int := match l[i]? with
 | none => 0
 | some e => if partsB e.2 = true then 1 else if ((l.take i).any fun x => clP x.1 e.1) = true then 8 else 0
inductive BP (l : Lvs) : Int → Nat → VT → Prop
 | none (h : l = []) : BP l 1 0 zeroT
 | bad (i : Nat) (h1 : ∀ k, k < i → badE l k = 0) (h2 : badE l i ≠ 0) : BP l (badE l i) i zeroT
 | gap (i : Nat) (h0 : l ≠ []) (h1 : ∀ k, badE l k = 0) (h2 : ∀ k, k < i → ¬ GapAt l k) (h3 : GapAt l i) : BP l 8 i zeroT
 | great (h0 : l ≠ []) (h1 : ∀ k, badE l k = 0) (h2 : ∀ k, ¬ GapAt l k) (h3 : ¬ ∃ T, TreeOf l T ∧ mayB 0 1 T = true) : BP l 2 0 zeroT
 | ok (T : VT) (h0 : l ≠ []) (h1 : ∀ k, badE l k = 0) (h2 : ∀ k, ¬ GapAt l k) (h3 : TreeOf l T) (h4 : mayB 0 1 T = true) : BP l 0 0 T
theorem bad_nil {l : Lvs} (h : l = []) (i : Nat) : badE l i = 0 := by subst h; rfl
theorem BP.one {l : Lvs} {e e' : Int} {i i' : Nat} {T T' : VT} (h : BP l e i T) (h' : BP l e' i' T') : e = e' ∧ i = i' ∧ T = T' := by
 cases h with
 | none h =>
  cases h' with
  | none _ => exact ⟨rfl, rfl, rfl⟩
  | bad i h1 h2 => exact absurd (bad_nil h _) h2
  | gap i h0 _ _ _ => exact absurd h h0
  | great h0 _ _ _ => exact absurd h h0
  | ok T h0 _ _ _ _ => exact absurd h h0
 | bad i h1 h2 =>
  cases h' with
  | none h => exact absurd (bad_nil h _) h2
  | bad i' h1' h2' =>
   have : i = i' := by
    rcases Nat.lt_trichotomy i i' with h | h | h
    ·exact absurd (h1' i h) h2
    ·exact h
    ·exact absurd (h1 i' h) h2'
   subst this; exact ⟨rfl, rfl, rfl⟩
  | gap i h0 h1 _ _ => exact absurd (h1 _) h2
  | great h0 h1 _ _ => exact absurd (h1 _) h2
  | ok T h0 h1 _ _ _ => exact absurd (h1 _) h2
 | gap i h0 h1 h2 h3 =>
  cases h' with
  | none h => exact absurd h h0
  | bad i' _ h2' => exact absurd (h1 _) h2'
  | gap i' _ _ h2' h3' =>
   have : i = i' := by
    rcases Nat.lt_trichotomy i i' with h | h | h
    ·exact absurd h3 (h2' i h)
    ·exact h
    ·exact absurd h3' (h2 i' h)
   subst this; exact ⟨rfl, rfl, rfl⟩
  | great _ _ h2' _ => exact absurd h3 (h2' _)
  | ok T _ _ h2' _ _ => exact absurd h3 (h2' _)
 | great h0 h1 h2 h3 =>
  cases h' with
  | none h => exact absurd h h0
  | bad i' _ h2' => exact absurd (h1 _) h2'
  | gap i' _ _ _ h3' => exact absurd h3' (h2 _)
  | great _ _ _ _ => exact ⟨rfl, rfl, rfl⟩
  | ok T _ _ _ h3' h4' => exact absurd ⟨_, h3', h4'⟩ h3
 | ok _ h0 h1 h2 h3 h4 =>
  cases h' with
  | none h => exact absurd h h0
  | bad i' _ h2' => exact absurd (h1 _) h2'
  | gap i' _ _ _ h3' => exact absurd h3' (h2 _)
  | great _ _ _ h3' => exact absurd ⟨_, h3, h4⟩ h3'
  | ok T' _ _ _ h3' _ => exact ⟨rfl, rfl, h3.one h3'⟩
end Go.Proofs.YteimbjamnfkapaaGreatDoor
/- Plain mathematics of the tree that grows: what it holds of the paths that were laid. -/
namespace Go.Proofs.YteimbjamnfkapaaGreatDoor
open Go.RowKit
abbrev Evd := List (List PStep × Nat)
def Rch (x : List PStep × Nat) (q : List PStep) : Prop := ∃ j, j ≤ x.2 ∧ j ≤ x.1.length ∧ q = x.1.take j
def NodeOf (Ev : Evd) (q : List PStep) : Prop := q = [] ∨ ∃ x ∈ Ev, Rch x q
def KindOf (Ev : Evd) (q : List PStep) (k : Int) : Prop := ∃ x ∈ Ev, ∃ j, j < x.2 ∧ j ≤ x.1.length ∧ q = x.1.take j ∧ k = kdP x.1 j
structure Trw (Ev : Evd) (X : List (List PStep)) (N : List Nd) (M : List ((Nat × PStep) × Nat)) : Prop where
 len : X.length = N.length
 root : X[0]? = some []
 nd : X.Nodup
 mem : ∀ q, q ∈ X ↔ NodeOf Ev q
 st : ∀ (a : Nat) (n : Nd) (q : List PStep) (s : PStep), N[a]? = some n → X[a]? = some (q ++ [s]) → n.st = s
 ways : ∀ (a : Nat) (q : List PStep) (s : PStep) (b : Nat), X[a]? = some q → (mpF M (a, s) = some b ↔ X[b]? = some (q ++ [s]))
 ps : ∀ (a : Nat) (n : Nd) (q : List PStep), N[a]? = some n → X[a]? = some q → n.ps.Nodup ∧ ∀ b, b ∈ n.ps ↔ ∃ s, X[b]? = some (q ++ [s])
 sh0 : ∀ (a : Nat) (n : Nd) (q : List PStep), N[a]? = some n → X[a]? = some q → n.sh = 0 → ∀ k, ¬ KindOf Ev q k
 sh1 : ∀ (a : Nat) (n : Nd) (q : List PStep) (k : Int), N[a]? = some n → X[a]? = some q → KindOf Ev q k → n.sh = k
 sh2 : ∀ (a : Nat) (n : Nd) (q : List PStep), N[a]? = some n → X[a]? = some q → n.sh ≠ 0 → KindOf Ev q n.sh
 lf : ∀ (a : Nat) (n : Nd) (q : List PStep), N[a]? = some n → X[a]? = some q → (a = 0 ∧ n.lf = 0) ∨ (∃ x, Ev[n.lf]? = some x ∧ Rch x q ∧ ∀ (j : Nat) (y : List PStep × Nat), j < n.lf → Ev[j]? = some y → ¬ Rch y q)
 mono : ∀ (a b : Nat) (n n' : Nd), a ≤ b → N[a]? = some n → N[b]? = some n' → n.lf ≤ n'.lf
 lim : ∀ n ∈ N, n.lf ≤ Ev.length
 ml : M.length + 1 = N.length
 far : ∀ (a : Nat) (s : PStep) (b : Nat), N.length ≤ a → ¬ mpF M (a, s) = some b
theorem tk_inj {p q : List PStep} {i j : Nat} (h : p.take i = q.take j) (hi : i ≤ p.length) (hj : j ≤ q.length) : i = j := by
 have := congrArg List.length h
 rw [List.length_take, List.length_take] at this
 omega
theorem tk_more {p : List PStep} {d : Nat} {s : PStep} (h : p[d]? = some s) : p.take (d + 1) = p.take d ++ [s] := by rw [List.take_add_one, h]; rfl
theorem ix_inj {X : List (List PStep)} (h : X.Nodup) {a b : Nat} {q : List PStep} (ha : X[a]? = some q) (hb : X[b]? = some q) : a = b :=
 (List.getElem?_inj (lt_of_some ha) h).1 (ha.trans hb.symm)
theorem snoc_inj {q q' : List PStep} {s s' : PStep} (h : q ++ [s] = q' ++ [s']) : q = q' ∧ s = s' := by
 obtain ⟨h1, h2⟩ := List.append_inj' h rfl
 exact ⟨h1, by simpa using h2⟩
theorem Trw.up {Ev : Evd} {X : List (List PStep)} {N : List Nd} {M : List ((Nat × PStep) × Nat)} (h : Trw Ev X N M) {q : List PStep} {s : PStep} (hq : q ++ [s] ∈ X) : q ∈ X := by
 rcases (h.mem _).1 hq with h1 | ⟨x, hx, j, h1, h2, h3⟩
 ·simp at h1
 ·refine (h.mem _).2 (.inr ⟨x, hx, j - 1, by omega, by omega, ?_⟩)
  have e := congrArg List.length h3
  rw [List.length_append, List.length_take] at e
  simp at e
  have e2 := congrArg (List.take (j - 1)) h3
  rw [List.take_take, Nat.min_eq_left (by omega)] at e2
  rw [← e2, List.take_append_of_le_length (by omega), List.take_of_length_le (by omega)]
theorem tri_new (s : PStep) : Trw [] [[]] [⟨0, s, 0, []⟩] [] := by
 have h0 : ∀ {a : Nat} {n : Nd}, [(⟨0, s, 0, []⟩ : Nd)][a]? = some n → a = 0 ∧ n = ⟨0, s, 0, []⟩ := fun {a n} h => by
  cases a with
  | zero => simp at h; exact ⟨rfl, h.symm⟩
  | succ a => simp at h
 have hX : ∀ {a : Nat} {q : List PStep}, [([] : List PStep)][a]? = some q → a = 0 ∧ q = [] := fun {a q} h => by
  cases a with
  | zero => simp at h; exact ⟨rfl, h⟩
  | succ a => simp at h
 refine ⟨rfl, rfl, by simp, fun q => ?_, fun a n q s' _ h => ?_, fun a q s' b _ => ?_, fun a n q h1 _ => ?_, fun a n q _ _ _ k hk => ?_, fun a n q k _ _ hk => ?_, fun a n q h1 _ h2 => ?_, fun a n q h1 _ => ?_, fun a b n n' _ h1 h2 => ?_, fun n hn => ?_, rfl, fun a s b _ h => by cases h⟩
 ·unfold NodeOf; simp
 ·have := (hX h).2; simp at this
 ·constructor
  ·intro h; cases h
  ·intro h; have := (hX h).2; simp at this
 ·obtain ⟨-, rfl⟩ := h0 h1
  refine ⟨List.nodup_nil, fun b => ⟨fun h => (by simp at h), fun ⟨s', h⟩ => ?_⟩⟩
  have := (hX h).2; simp at this
 ·obtain ⟨x, hx, -⟩ := hk; simp at hx
 ·obtain ⟨x, hx, -⟩ := hk; simp at hx
 ·obtain ⟨-, rfl⟩ := h0 h1; exact absurd rfl h2
 ·obtain ⟨rfl, rfl⟩ := h0 h1; exact .inl ⟨rfl, rfl⟩
 ·obtain ⟨-, rfl⟩ := h0 h1
  obtain ⟨-, rfl⟩ := h0 h2
  exact Nat.le_refl _
 ·rw [List.mem_singleton.1 hn]; exact Nat.zero_le _
theorem Trw.start {Ev : Evd} {X : List (List PStep)} {N : List Nd} {M : List ((Nat × PStep) × Nat)} (h : Trw Ev X N M) (p : List PStep) : Trw (Ev ++ [(p, 0)]) X N M := by
 have hk : ∀ q k, KindOf (Ev ++ [(p, 0)]) q k ↔ KindOf Ev q k := fun q k => by
  constructor
  ·rintro ⟨x, hx, j, h1, h2⟩
   rcases List.mem_append.1 hx with hx | hx
   ·exact ⟨x, hx, j, h1, h2⟩
   ·rw [List.mem_singleton.1 hx] at h1; simp at h1
  ·rintro ⟨x, hx, h2⟩
   exact ⟨x, List.mem_append_left _ hx, h2⟩
 have hlen : ∀ n ∈ N, n.lf ≤ (Ev ++ [(p, 0)]).length := fun n hn => by have := h.lim n hn; simp; omega
 refine ⟨h.len, h.root, h.nd, fun q => ?_, h.st, h.ways, h.ps, fun a n q h1 h2 h3 k => by rw [hk]; exact h.sh0 a n q h1 h2 h3 k, fun a n q k h1 h2 h3 => h.sh1 a n q k h1 h2 ((hk q k).1 h3), fun a n q h1 h2 h3 => (hk q _).2 (h.sh2 a n q h1 h2 h3), fun a n q h1 h2 => ?_, h.mono, hlen, h.ml, h.far⟩
 ·rw [h.mem q]
  constructor
  ·rintro (h1 | ⟨x, hx, h1⟩)
   ·exact .inl h1
   ·exact .inr ⟨x, List.mem_append_left _ hx, h1⟩
  ·rintro (h1 | ⟨x, hx, j, h1, h2, h3⟩)
   ·exact .inl h1
   ·rcases List.mem_append.1 hx with hx | hx
    ·exact .inr ⟨x, hx, j, h1, h2, h3⟩
    ·rw [List.mem_singleton.1 hx] at h1 h3
     have : j = 0 := by simpa using h1
     subst this
     exact .inl h3
 ·rcases h.lf a n q h1 h2 with h3 | ⟨x, h3, h4, h5⟩
  ·exact .inl h3
  ·refine .inr ⟨x, ?_, h4, fun j y hj hy => ?_⟩
   ·rw [List.getElem?_append_left (lt_of_some h3)]; exact h3
   ·rw [List.getElem?_append_left (by have := lt_of_some h3; omega)] at hy
    exact h5 j y hj hy
theorem Trw.clash {Ev : Evd} {X : List (List PStep)} {N : List Nd} {M : List ((Nat × PStep) × Nat)} {p : List PStep} {d : Nat} (h : Trw (Ev ++ [(p, d)]) X N M) (hd : d ≤ p.length) {a : Nat} {n : Nd} (hn : N[a]? = some n) (hx : X[a]? = some (p.take d)) (h0 : n.sh ≠ 0) (hk : n.sh ≠ kdP p d ∨ kdP p d = 1) : ∃ x ∈ Ev, clP x.1 p = true := by
 obtain ⟨x, hxe, j, h1, h2, h3, h4⟩ := h.sh2 a n _ hn hx h0
 rcases List.mem_append.1 hxe with hxe | hxe
 ·have : d = j := tk_inj h3 hd h2
  subst this
  refine ⟨x, hxe, (clP_iff _ _).2 ⟨d, h2, hd, h3.symm, ?_⟩⟩
  rcases hk with hk | hk
  ·exact .inl (by rw [← h4]; exact hk)
  ·by_cases e : kdP x.1 d = 1
   ·exact .inr e
   ·exact .inl (by rw [hk]; exact e)
 ·have e := List.mem_singleton.1 hxe
  rw [e] at h1 h2 h3
  have : d = j := tk_inj h3 hd h2
  simp at h1
  omega
theorem kd_mid {p : List PStep} {d : Nat} {s : PStep} (h : p[d]? = some s) : kdP p d = if s.place = true then 2 else 3 := by unfold kdP; rw [h]
theorem kind_snoc {Ev : Evd} {p : List PStep} {d : Nat} (hd : d ≤ p.length) (q : List PStep) (k : Int) : KindOf (Ev ++ [(p, d + 1)]) q k ↔ KindOf (Ev ++ [(p, d)]) q k ∨ (q = p.take d ∧ k = kdP p d) := by
 constructor
 ·rintro ⟨x, hx, j, h1, h2, h3, h4⟩
  rcases List.mem_append.1 hx with hx | hx
  ·exact .inl ⟨x, List.mem_append_left _ hx, j, h1, h2, h3, h4⟩
  ·have e := List.mem_singleton.1 hx
   subst e
   simp only at h1 h2 h3 h4
   by_cases hj : j = d
   ·subst hj; exact .inr ⟨h3, h4⟩
   ·exact .inl ⟨(p, d), by simp, j, by show j < d; omega, h2, h3, h4⟩
 ·rintro (⟨x, hx, j, h1, h2, h3, h4⟩ | ⟨h3, h4⟩)
  ·rcases List.mem_append.1 hx with hx | hx
   ·exact ⟨x, List.mem_append_left _ hx, j, h1, h2, h3, h4⟩
   ·have e := List.mem_singleton.1 hx
    subst e
    exact ⟨(p, d + 1), by simp, j, by simp only at h1 ⊢; omega, h2, h3, h4⟩
  ·exact ⟨(p, d + 1), by simp, d, by simp, hd, h3, h4⟩
theorem node_snoc {Ev : Evd} {p : List PStep} {d : Nat} (q : List PStep) : NodeOf (Ev ++ [(p, d + 1)]) q ↔ NodeOf (Ev ++ [(p, d)]) q ∨ (d + 1 ≤ p.length ∧ q = p.take (d + 1)) := by
 constructor
 ·rintro (h | ⟨x, hx, j, h1, h2, h3⟩)
  ·exact .inl (.inl h)
  ·rcases List.mem_append.1 hx with hx | hx
   ·exact .inl (.inr ⟨x, List.mem_append_left _ hx, j, h1, h2, h3⟩)
   ·have e := List.mem_singleton.1 hx
    subst e
    simp only at h1 h2 h3
    by_cases hj : j = d + 1
    ·subst hj; exact .inr ⟨h2, h3⟩
    ·exact .inl (.inr ⟨(p, d), by simp, j, by show j ≤ d; omega, h2, h3⟩)
 ·rintro ((h | ⟨x, hx, j, h1, h2, h3⟩) | ⟨h2, h3⟩)
  ·exact .inl h
  ·rcases List.mem_append.1 hx with hx | hx
   ·exact .inr ⟨x, List.mem_append_left _ hx, j, h1, h2, h3⟩
   ·have e := List.mem_singleton.1 hx
    subst e
    exact .inr ⟨(p, d + 1), by simp, j, by simp only at h1 ⊢; omega, h2, h3⟩
  ·exact .inr ⟨(p, d + 1), by simp, d + 1, Nat.le_refl _, h2, h3⟩
theorem rch_snoc {p : List PStep} {d : Nat} {q : List PStep} (h : Rch (p, d) q) : Rch (p, d + 1) q := by
 obtain ⟨j, h1, h2, h3⟩ := h
 exact ⟨j, by simp only at h1 ⊢; omega, h2, h3⟩
theorem lf_snoc {Ev : Evd} {p q : List PStep} {d a : Nat} {k : Nat} (hk : k ≤ Ev.length) (_hq : ∃ j, j ≤ d ∧ j ≤ p.length ∧ q = p.take j ∨ True)
  (h : (a = 0 ∧ k = 0) ∨ (∃ x, (Ev ++ [(p, d)])[k]? = some x ∧ Rch x q ∧ ∀ (j : Nat) (y : List PStep × Nat), j < k → (Ev ++ [(p, d)])[j]? = some y → ¬ Rch y q)) :
  (a = 0 ∧ k = 0) ∨ (∃ x, (Ev ++ [(p, d + 1)])[k]? = some x ∧ Rch x q ∧ ∀ (j : Nat) (y : List PStep × Nat), j < k → (Ev ++ [(p, d + 1)])[j]? = some y → ¬ Rch y q) := by
 rcases h with h | ⟨x, h1, h2, h3⟩
 ·exact .inl h
 ·right
  have lo : ∀ j y, j < Ev.length → ((Ev ++ [(p, d + 1)])[j]? = some y ↔ (Ev ++ [(p, d)])[j]? = some y) := fun j y hj => by
   rw [List.getElem?_append_left hj, List.getElem?_append_left hj]
  rcases Nat.lt_or_ge k Ev.length with h4 | h4
  ·exact ⟨x, (lo k x h4).2 h1, h2, fun j y hj hy => h3 j y hj ((lo j y (by omega)).1 hy)⟩
  ·have e : k = Ev.length := by omega
   subst e
   rw [List.getElem?_append_right (Nat.le_refl _), Nat.sub_self] at h1
   simp at h1
   subst h1
   exact ⟨(p, d + 1), by simp, rch_snoc h2, fun j y hj hy => h3 j y hj ((lo j y hj).1 hy)⟩
theorem Trw.kinds {Ev : Evd} {X : List (List PStep)} {N : List Nd} {M : List ((Nat × PStep) × Nat)} {p : List PStep} {d : Nat} (h : Trw (Ev ++ [(p, d)]) X N M) (hd : d ≤ p.length) {a : Nat} {n : Nd} (hn : N[a]? = some n) (hx : X[a]? = some (p.take d)) (hs : n.sh = 0 ∨ n.sh = kdP p d) :
  (∀ (b : Nat) (m : Nd) (q : List PStep), (N.set a {n with sh := kdP p d})[b]? = some m → X[b]? = some q → (m.sh = 0 → ∀ k, ¬ KindOf (Ev ++ [(p, d + 1)]) q k) ∧ (∀ k, KindOf (Ev ++ [(p, d + 1)]) q k → m.sh = k) ∧ (m.sh ≠ 0 → KindOf (Ev ++ [(p, d + 1)]) q m.sh)) := by
 intro b m q hm hq
 have hk0 : kdP p d ≠ 0 := by rcases kd_val p d with e | e | e <;> rw [e] <;> decide
 rw [List.getElem?_set] at hm
 by_cases hab : a = b
 ·subst hab
  rw [if_pos rfl, if_pos (lt_of_some hn)] at hm
  injection hm with hm
  subst hm
  have eq : q = p.take d := by rw [hq] at hx; injection hx
  subst eq
  refine ⟨fun h0 => absurd h0 hk0, fun k hk => ?_, fun _ => (kind_snoc hd _ _).2 (.inr ⟨rfl, rfl⟩)⟩
  rcases (kind_snoc hd _ _).1 hk with h1 | ⟨-, h1⟩
  ·have h2 := h.sh1 a n _ k hn hx h1
   rcases hs with hs | hs
   ·exact absurd h1 (h.sh0 a n _ hn hx hs k)
   ·show kdP p d = k; rw [← hs, h2]
  ·exact h1.symm
 ·rw [if_neg hab] at hm
  have hne : q ≠ p.take d := fun e => by subst e; exact hab (ix_inj h.nd hx hq)
  refine ⟨fun h0 k hk => ?_, fun k hk => ?_, fun h0 => (kind_snoc hd _ _).2 (.inl (h.sh2 b m q hm hq h0))⟩
  ·rcases (kind_snoc hd _ _).1 hk with h1 | ⟨h1, -⟩
   ·exact h.sh0 b m q hm hq h0 k h1
   ·exact hne h1
  ·rcases (kind_snoc hd _ _).1 hk with h1 | ⟨h1, -⟩
   ·exact h.sh1 b m q k hm hq h1
   ·exact absurd h1 hne
theorem set_at {N : List Nd} {a : Nat} {n : Nd} (hn : N[a]? = some n) (n' : Nd) {b : Nat} {m : Nd} (h : (N.set a n')[b]? = some m) : (b = a ∧ m = n') ∨ (¬ b = a ∧ N[b]? = some m) := by
 rw [List.getElem?_set] at h
 by_cases hab : a = b
 ·subst hab
  rw [if_pos rfl, if_pos (lt_of_some hn)] at h
  injection h with h
  exact .inl ⟨rfl, h.symm⟩
 ·rw [if_neg hab] at h
  exact .inr ⟨fun e => hab e.symm, h⟩
theorem Trw.keep {Ev : Evd} {X : List (List PStep)} {N : List Nd} {M : List ((Nat × PStep) × Nat)} {p : List PStep} {d : Nat} (h : Trw (Ev ++ [(p, d)]) X N M) (hd : d ≤ p.length) {a : Nat} {n : Nd} (hn : N[a]? = some n) (hx : X[a]? = some (p.take d)) (hs : n.sh = 0 ∨ n.sh = kdP p d) (hnode : d + 1 ≤ p.length → p.take (d + 1) ∈ X) :
  Trw (Ev ++ [(p, d + 1)]) X (N.set a {n with sh := kdP p d}) M := by
 have hkk := h.kinds hd hn hx hs
 have old : ∀ {c : Nat} {m : Nd}, (N.set a {n with sh := kdP p d})[c]? = some m → ∃ m', N[c]? = some m' ∧ m'.st = m.st ∧ m'.ps = m.ps ∧ m'.lf = m.lf := fun {c m} hm => by
  rcases set_at hn _ hm with ⟨rfl, rfl⟩ | ⟨-, hm⟩
  ·exact ⟨n, hn, rfl, rfl, rfl⟩
  ·exact ⟨m, hm, rfl, rfl, rfl⟩
 have hlim : ∀ {c : Nat} {m : Nd}, N[c]? = some m → m.lf ≤ Ev.length := fun {c m} hm => by
  obtain ⟨q, hq⟩ : ∃ q, X[c]? = some q := ⟨_, List.getElem?_eq_getElem (by rw [h.len]; exact lt_of_some hm)⟩
  rcases h.lf c m q hm hq with ⟨-, e⟩ | ⟨x, e, -⟩
  ·omega
  ·have := lt_of_some e; simp at this; omega
 refine ⟨by rw [List.length_set]; exact h.len, h.root, h.nd, fun q => ?_, fun c m q s' hm hq => ?_, h.ways, fun c m q hm hq => ?_, fun c m q h1 h2 => (hkk c m q h1 h2).1, fun c m q k h1 h2 h3 => (hkk c m q h1 h2).2.1 k h3, fun c m q h1 h2 => (hkk c m q h1 h2).2.2, fun c m q hm hq => ?_, fun c c' m m' hc hm hm' => ?_, fun m hm => ?_, by rw [List.length_set]; exact h.ml, fun c s' b hc => h.far c s' b (by rw [List.length_set] at hc; exact hc)⟩
 ·rw [h.mem q, node_snoc]
  constructor
  ·exact fun h1 => .inl h1
  ·rintro (h1 | ⟨h2, h1⟩)
   ·exact h1
   ·rw [← h.mem q, h1]; exact hnode h2
 ·obtain ⟨m', h1, h2, -⟩ := old hm
  rw [← h2]; exact h.st c m' q s' h1 hq
 ·obtain ⟨m', h1, -, h2, -⟩ := old hm
  rw [← h2]; exact h.ps c m' q h1 hq
 ·obtain ⟨m', h1, -, -, h2⟩ := old hm
  rw [← h2]
  exact lf_snoc (hlim h1) ⟨0, .inr trivial⟩ (h.lf c m' q h1 hq)
 ·obtain ⟨m1, h1, -, -, h2⟩ := old hm
  obtain ⟨m2, h3, -, -, h4⟩ := old hm'
  rw [← h2, ← h4]; exact h.mono c c' m1 m2 hc h1 h3
 ·obtain ⟨c, hc⟩ := List.getElem?_of_mem hm
  obtain ⟨m', h1, -, -, h2⟩ := old hc
  have := h.lim m' (List.mem_of_getElem? h1)
  rw [← h2]; simp at this ⊢; exact this
theorem Trw.step_old {Ev : Evd} {X : List (List PStep)} {N : List Nd} {M : List ((Nat × PStep) × Nat)} {p : List PStep} {d : Nat} (h : Trw (Ev ++ [(p, d)]) X N M) {s : PStep} (hp : p[d]? = some s) {a : Nat} {n : Nd} (hn : N[a]? = some n) (hx : X[a]? = some (p.take d)) (hs : n.sh = 0 ∨ n.sh = kdP p d) {b : Nat} (hb : mpF M (a, s) = some b) :
  Trw (Ev ++ [(p, d + 1)]) X (N.set a {n with sh := kdP p d}) M ∧ X[b]? = some (p.take (d + 1)) := by
 have hd := lt_of_some hp
 have hxb : X[b]? = some (p.take (d + 1)) := by rw [tk_more hp]; exact (h.ways a _ s b hx).1 hb
 exact ⟨h.keep (by omega) hn hx hs (fun _ => List.mem_of_getElem? hxb), hxb⟩
theorem Trw.done {Ev : Evd} {X : List (List PStep)} {N : List Nd} {M : List ((Nat × PStep) × Nat)} {p : List PStep} (h : Trw (Ev ++ [(p, p.length)]) X N M) {a : Nat} {n : Nd} (hn : N[a]? = some n) (hx : X[a]? = some p) (hs : n.sh = 0) :
  Trw (Ev ++ [(p, p.length + 1)]) X (N.set a {n with sh := 1}) M ∧ ∀ x ∈ Ev, x.2 = x.1.length + 1 → clP x.1 p = false := by
 have e1 : kdP p p.length = 1 := by unfold kdP; rw [List.getElem?_eq_none (Nat.le_refl _)]
 have hx' : X[a]? = some (p.take p.length) := by rw [List.take_length]; exact hx
 have hT := h.keep (Nat.le_refl _) hn hx' (.inl hs) (fun h => by omega)
 rw [e1] at hT
 refine ⟨hT, fun x hxe hx2 => ?_⟩
 cases hc : clP x.1 p with
 | false => rfl
 | true =>
  exfalso
  obtain ⟨j, h1, h2, h3, h4⟩ := (clP_iff _ _).1 hc
  have hm : p.take j ∈ X := (hT.mem _).2 (.inr ⟨(p, p.length + 1), by simp, j, by simp only; omega, h2, rfl⟩)
  obtain ⟨c, hcx⟩ := List.getElem?_of_mem hm
  obtain ⟨m, hm'⟩ : ∃ m, (N.set a {n with sh := 1})[c]? = some m := ⟨_, List.getElem?_eq_getElem (by rw [← hT.len]; exact lt_of_some hcx)⟩
  have k1 := hT.sh1 c m _ (kdP x.1 j) hm' hcx ⟨x, by simp [hxe], j, by omega, h1, h3.symm, rfl⟩
  have k2 := hT.sh1 c m _ (kdP p j) hm' hcx ⟨(p, p.length + 1), by simp, j, by simp only; omega, h2, rfl, rfl⟩
  rcases h4 with h4 | h4
  ·exact h4 (by rw [← k1, k2])
  ·have hp1 : kdP p j = 1 := by rw [← k2, k1, h4]
   have := kd_one hp1
   have ej : j = p.length := by omega
   subst ej
   have := kd_one h4
   have ek : x.1.length = p.length := by omega
   rw [List.take_length, ← ek, List.take_length] at h3
   have := h.sh0 a n p hn hx hs 1
   exact this ⟨x, by simp [hxe], x.1.length, by omega, Nat.le_refl _, by rw [List.take_length]; exact h3.symm, by rw [ek]; exact h4.symm⟩
theorem Trw.step_new {Ev : Evd} {X : List (List PStep)} {N : List Nd} {M : List ((Nat × PStep) × Nat)} {p : List PStep} {d : Nat} (h : Trw (Ev ++ [(p, d)]) X N M) {s : PStep} (hp : p[d]? = some s) {a : Nat} {n : Nd} (hn : N[a]? = some n) (hx : X[a]? = some (p.take d)) (hs : n.sh = 0 ∨ n.sh = kdP p d) (hb : mpF M (a, s) = none) :
  Trw (Ev ++ [(p, d + 1)]) (X ++ [p.take (d + 1)]) ((N.set a ⟨kdP p d, n.st, n.lf, n.ps ++ [N.length]⟩) ++ [⟨0, s, Ev.length, []⟩]) (((a, s), N.length) :: M) ∧ (X ++ [p.take (d + 1)])[N.length]? = some (p.take (d + 1)) := by
 have hd := lt_of_some hp
 have ha := lt_of_some hn
 have hout : p.take (d + 1) ∉ X := fun hm => by
  obtain ⟨b, hb'⟩ := List.getElem?_of_mem hm
  rw [tk_more hp] at hb'
  have := (h.ways a _ s b hx).2 hb'
  rw [hb] at this; cases this
 have hkk := h.kinds (by omega) hn hx hs
 have hnode : ¬ NodeOf (Ev ++ [(p, d)]) (p.take (d + 1)) := fun hm => hout ((h.mem _).2 hm)
 have hnok : ∀ k, ¬ KindOf (Ev ++ [(p, d + 1)]) (p.take (d + 1)) k := fun k hk => by
  rcases (kind_snoc (by omega) _ _).1 hk with ⟨x, hx', j, h1, h2, h3, -⟩ | ⟨h3, -⟩
  ·exact hnode (.inr ⟨x, hx', j, by omega, h2, h3⟩)
  ·have := tk_inj h3 (by omega) (by omega); omega
 have oldX : ∀ {c : Nat} {q : List PStep}, (X ++ [p.take (d + 1)])[c]? = some q → (c < N.length ∧ X[c]? = some q) ∨ (c = N.length ∧ q = p.take (d + 1)) := fun {c q} hq => by
  rcases Nat.lt_or_ge c X.length with h1 | h1
  ·rw [List.getElem?_append_left h1] at hq
   exact .inl ⟨by rw [← h.len]; exact h1, hq⟩
  ·rw [List.getElem?_append_right h1] at hq
   cases hz : c - X.length with
   | zero => rw [hz] at hq; simp at hq; exact .inr ⟨by rw [← h.len]; omega, hq.symm⟩
   | succ k => rw [hz] at hq; simp at hq
 have newX : ∀ {c : Nat} {q : List PStep}, X[c]? = some q → (X ++ [p.take (d + 1)])[c]? = some q := fun {c q} hq => by rw [List.getElem?_append_left (lt_of_some hq)]; exact hq
 have lastX : (X ++ [p.take (d + 1)])[N.length]? = some (p.take (d + 1)) := by rw [← h.len]; simp
 have oldN : ∀ {c : Nat} {m : Nd}, ((N.set a ⟨kdP p d, n.st, n.lf, n.ps ++ [N.length]⟩) ++ [⟨0, s, Ev.length, []⟩])[c]? = some m → (c < N.length ∧ ∃ m', N[c]? = some m' ∧ m'.st = m.st ∧ m'.lf = m.lf ∧ (N.set a {n with sh := kdP p d})[c]? = some ⟨m.sh, m'.st, m'.lf, m'.ps⟩ ∧ ((c = a ∧ m.ps = m'.ps ++ [N.length]) ∨ (¬ c = a ∧ m.ps = m'.ps))) ∨ (c = N.length ∧ m = ⟨0, s, Ev.length, []⟩) := fun {c m} hm => by
  rcases Nat.lt_or_ge c N.length with h1 | h1
  ·rw [List.getElem?_append_left (by rw [List.length_set]; exact h1)] at hm
   rcases set_at hn _ hm with ⟨rfl, rfl⟩ | ⟨hca, hm⟩
   ·refine .inl ⟨h1, n, hn, rfl, rfl, ?_, .inl ⟨rfl, rfl⟩⟩
    rw [List.getElem?_set, if_pos rfl, if_pos h1]
   ·refine .inl ⟨h1, m, hm, rfl, rfl, ?_, .inr ⟨hca, rfl⟩⟩
    rw [List.getElem?_set, if_neg (fun e => hca e.symm)]; exact hm
  ·rw [List.getElem?_append_right (by rw [List.length_set]; exact h1), List.length_set] at hm
   cases hz : c - N.length with
   | zero => rw [hz] at hm; simp at hm; exact .inr ⟨by omega, hm.symm⟩
   | succ k => rw [hz] at hm; simp at hm
 have hlim : ∀ {c : Nat} {m : Nd}, N[c]? = some m → m.lf ≤ Ev.length := fun {c m} hm => by
  obtain ⟨q, hq⟩ : ∃ q, X[c]? = some q := ⟨_, List.getElem?_eq_getElem (by rw [h.len]; exact lt_of_some hm)⟩
  rcases h.lf c m q hm hq with ⟨-, e⟩ | ⟨x, e, -⟩
  ·omega
  ·have := lt_of_some e; simp at this; omega
 have hroot : 0 < X.length := lt_of_some h.root
 refine ⟨⟨by simp [h.len], newX h.root, ?_, fun q => ?_, fun c m q s' hm hq => ?_, fun c q s' b hq => ?_, fun c m q hm hq => ?_, fun c m q hm hq h0 k => ?_, fun c m q k hm hq hk => ?_, fun c m q hm hq h0 => ?_, fun c m q hm hq => ?_, fun c c' m m' hc hm hm' => ?_, fun m hm => ?_, by simp [h.ml], fun c s' b hc => ?_⟩, lastX⟩
 ·rw [List.nodup_append]
  exact ⟨h.nd, by simp, fun x hx y hy e => by rw [List.mem_singleton.1 hy] at e; subst e; exact hout hx⟩
 ·rw [List.mem_append, h.mem q, List.mem_singleton, node_snoc]
  constructor
  ·rintro (h1 | h1)
   ·exact .inl h1
   ·exact .inr ⟨by omega, h1⟩
  ·rintro (h1 | ⟨-, h1⟩)
   ·exact .inl h1
   ·exact .inr h1
 ·rcases oldN hm with ⟨hc, m', h1, h2, -⟩ | ⟨rfl, rfl⟩
  ·rcases oldX hq with ⟨-, hq⟩ | ⟨e, -⟩
   ·rw [← h2]; exact h.st c m' q s' h1 hq
   ·omega
  ·rcases oldX hq with ⟨e, -⟩ | ⟨-, hq⟩
   ·omega
   ·rw [tk_more hp] at hq
    exact (snoc_inj hq).2.symm
 ·-- ways
  show (if (a, s) = (c, s') then some N.length else mpF M (c, s')) = some b ↔ _
  rcases oldX hq with ⟨hc, hq⟩ | ⟨rfl, rfl⟩
  ·by_cases e : (a, s) = (c, s')
   ·rw [if_pos e]
    injection e with e1 e2
    subst e1 e2
    have eq : q = p.take d := by rw [hq] at hx; injection hx
    subst eq
    rw [← tk_more hp]
    constructor
    ·intro hb'; injection hb' with hb'; subst hb'; exact lastX
    ·intro hb'
     rcases oldX hb' with ⟨-, h1⟩ | ⟨h1, -⟩
     ·exact absurd (List.mem_of_getElem? h1) hout
     ·rw [h1]
   ·rw [if_neg e, h.ways c q s' b hq]
    constructor
    ·exact fun h1 => newX h1
    ·intro h1
     rcases oldX h1 with ⟨-, h1⟩ | ⟨-, h1⟩
     ·exact h1
     ·exfalso
      rw [tk_more hp] at h1
      obtain ⟨e1, e2⟩ := snoc_inj h1
      subst e1 e2
      exact e (by rw [ix_inj h.nd hx hq])
  ·rw [if_neg (fun e => by injection e with e1; omega)]
   constructor
   ·intro h1
    exfalso
    -- no way from a node that was not there
    have : mpF M (N.length, s') = none := by
     cases hz : mpF M (N.length, s') with
     | none => rfl
     | some z => exact absurd hz (h.far N.length s' z (Nat.le_refl _))
    rw [this] at h1; cases h1
   ·intro h1
    exfalso
    rcases oldX h1 with ⟨-, h1⟩ | ⟨-, h1⟩
    ·obtain ⟨r, h2⟩ : ∃ r, p.take (d + 1) = r := ⟨_, rfl⟩
     exact hout (h.up (List.mem_of_getElem? h1))
    ·have := congrArg List.length h1
     simp at this
 ·-- parts
  rcases oldN hm with ⟨hc, m', h1, -, -, -, h2⟩ | ⟨rfl, rfl⟩
  ·rcases oldX hq with ⟨-, hq⟩ | ⟨e, -⟩
   ·obtain ⟨h3, h4⟩ := h.ps c m' q h1 hq
    rcases h2 with ⟨rfl, h2⟩ | ⟨hca, h2⟩
    ·rw [h2]
     have eq : q = p.take d := by rw [hq] at hx; injection hx
     subst eq
     refine ⟨?_, fun b => ?_⟩
     ·rw [List.nodup_append]
      refine ⟨h3, by simp, fun x hx' y hy e => ?_⟩
      rw [List.mem_singleton.1 hy] at e
      subst e
      obtain ⟨s', h5⟩ := (h4 N.length).1 hx'
      have := lt_of_some h5
      rw [h.len] at this; omega
     ·rw [List.mem_append, h4 b, List.mem_singleton]
      constructor
      ·rintro (⟨s', h5⟩ | rfl)
       ·exact ⟨s', newX h5⟩
       ·exact ⟨s, by rw [← tk_more hp]; exact lastX⟩
      ·rintro ⟨s', h5⟩
       rcases oldX h5 with ⟨-, h5⟩ | ⟨h5, -⟩
       ·exact .inl ⟨s', h5⟩
       ·exact .inr h5
    ·rw [h2]
     refine ⟨h3, fun b => ?_⟩
     rw [h4 b]
     constructor
     ·rintro ⟨s', h5⟩; exact ⟨s', newX h5⟩
     ·rintro ⟨s', h5⟩
      rcases oldX h5 with ⟨-, h5⟩ | ⟨-, h5⟩
      ·exact ⟨s', h5⟩
      ·exfalso
       rw [tk_more hp] at h5
       obtain ⟨e1, -⟩ := snoc_inj h5
       subst e1
       exact hca (ix_inj h.nd hq hx)
   ·omega
  ·rcases oldX hq with ⟨e, -⟩ | ⟨-, rfl⟩
   ·omega
   ·refine ⟨List.nodup_nil, fun b => ⟨fun h => (by simp at h), ?_⟩⟩
    rintro ⟨s', h5⟩
    exfalso
    rcases oldX h5 with ⟨-, h5⟩ | ⟨-, h5⟩
    ·exact hout (h.up (List.mem_of_getElem? h5))
    ·have := congrArg List.length h5
     simp at this
 ·rcases oldN hm with ⟨hc, m', h1, -, -, h2, -⟩ | ⟨rfl, rfl⟩
  ·rcases oldX hq with ⟨-, hq⟩ | ⟨e, -⟩
   ·exact (hkk c _ q h2 hq).1 h0 k
   ·omega
  ·rcases oldX hq with ⟨e, -⟩ | ⟨-, rfl⟩
   ·omega
   ·exact hnok k
 ·rcases oldN hm with ⟨hc, m', h1, -, -, h2, -⟩ | ⟨rfl, rfl⟩
  ·rcases oldX hq with ⟨-, hq⟩ | ⟨e, -⟩
   ·exact (hkk c _ q h2 hq).2.1 k hk
   ·omega
  ·rcases oldX hq with ⟨e, -⟩ | ⟨-, rfl⟩
   ·omega
   ·exact absurd hk (hnok k)
 ·rcases oldN hm with ⟨hc, m', h1, -, -, h2, -⟩ | ⟨rfl, rfl⟩
  ·rcases oldX hq with ⟨-, hq⟩ | ⟨e, -⟩
   ·exact (hkk c _ q h2 hq).2.2 h0
   ·omega
  ·exact absurd rfl h0
 ·rcases oldN hm with ⟨hc, m', h1, -, h2, -⟩ | ⟨rfl, rfl⟩
  ·rcases oldX hq with ⟨-, hq⟩ | ⟨e, -⟩
   ·rw [← h2]
    exact lf_snoc (hlim h1) ⟨0, .inr trivial⟩ (h.lf c m' q h1 hq)
   ·omega
  ·rcases oldX hq with ⟨e, -⟩ | ⟨-, rfl⟩
   ·omega
   ·refine .inr ⟨(p, d + 1), by simp, ⟨d + 1, Nat.le_refl _, (by show d + 1 ≤ p.length; omega), rfl⟩, fun j y hj hy hr => ?_⟩
    rw [List.getElem?_append_left hj] at hy
    exact hnode (.inr ⟨y, List.mem_append_left _ (List.mem_of_getElem? hy), hr⟩)
 ·rcases oldN hm with ⟨hc1, m1, h1, -, h2, -⟩ | ⟨rfl, rfl⟩
  ·rcases oldN hm' with ⟨hc2, m2, h3, -, h4, -⟩ | ⟨rfl, rfl⟩
   ·rw [← h2, ← h4]; exact h.mono c c' m1 m2 hc h1 h3
   ·rw [← h2]; exact hlim h1
  ·rcases oldN hm' with ⟨hc2, m2, h3, -, h4, -⟩ | ⟨rfl, rfl⟩
   ·omega
   ·exact Nat.le_refl _
 ·obtain ⟨c, hc⟩ := List.getElem?_of_mem hm
  rcases oldN hc with ⟨hc1, m1, h1, -, h2, -⟩ | ⟨rfl, rfl⟩
  ·rw [← h2]; have := hlim h1; simp; omega
  ·simp
 ·simp at hc
  show ¬ (if (a, s) = (c, s') then some N.length else mpF M (c, s')) = some b
  rw [if_neg (fun e => by injection e with e1; omega)]
  exact h.far c s' b (by omega)
end Go.Proofs.YteimbjamnfkapaaGreatDoor
