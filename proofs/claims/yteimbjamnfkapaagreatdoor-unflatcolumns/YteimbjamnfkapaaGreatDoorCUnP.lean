import Derived.Test.YteimbjamnfkapaaGreatDoorCUnH
import Derived.Test.YteimbjamnfkapaaGreatDoorCUnL
/- Plain mathematics of a tree's own leaves: the tree is what they make. -/
namespace Go.Proofs.YteimbjamnfkapaaGreatDoor
open Go.RowKit
theorem get_join : ∀ (q : List PStep) (T : VT) (r : List PStep), getP T (q ++ r) = (getP T q).bind fun t => getP t r
 | [], T, r => by simp [getP]
 | s :: q, T, r => by
  rw [List.cons_append, getP_cons, getP_cons]
  cases h : (idxT T s).bind (kidT T s) with
  | none => rfl
  | some u => simp only [Option.bind_some]; exact get_join q u r
theorem AllCn.one {s : PStep} (h : Cn s) : AllCn [s] := fun x hx => by rw [List.mem_singleton.1 hx]; exact h
theorem AllCn.app {a b : List PStep} (h : AllCn a) (h' : AllCn b) : AllCn (a ++ b) := fun x hx => by
 rcases List.mem_append.1 hx with hx | hx
 ·exact h x hx
 ·exact h' x hx
mutual
theorem lf_pre : ∀ (T : VT) (p : List PStep) (z : List PStep × VT), z ∈ lfT T p → ∃ r, z.1 = p ++ r ∧ AllCn r
 | .mk k n s L K V, p, z, h => by
  rw [lfT] at h
  split at h
  ·exact lfL_pre L 0 p z h
  ·split at h
   ·exact lfM_pre V K p z h
   ·rw [List.mem_singleton] at h; subst h
    exact ⟨[], by simp, fun x hx => by simp at hx⟩
theorem lfL_pre : ∀ (L : List VT) (i : Nat) (p : List PStep) (z : List PStep × VT), z ∈ lfL L i p → ∃ r, z.1 = p ++ r ∧ AllCn r
 | [], _, _, _, h => by simp [lfL] at h
 | t :: r, i, p, z, h => by
  rw [lfL, List.mem_append] at h
  rcases h with h | h
  ·obtain ⟨x, h1, h2⟩ := lf_pre t _ z h
   exact ⟨lpl i :: x, by rw [h1]; simp, AllCn.cons (cn_lpl i) h2⟩
  ·exact lfL_pre r (i + 1) p z h
theorem lfM_pre : ∀ (V : List VT) (K : List ByteArray) (p : List PStep) (z : List PStep × VT), z ∈ lfM V K p → ∃ r, z.1 = p ++ r ∧ AllCn r
 | [], _, _, _, h => by simp [lfM] at h
 | t :: r, K, p, z, h => by
  rw [lfM, List.mem_append] at h
  rcases h with h | h
  ·obtain ⟨x, h1, h2⟩ := lf_pre t _ z h
   exact ⟨lky (K.headD ⟨#[]⟩) :: x, by rw [h1]; simp, AllCn.cons (cn_lky _) h2⟩
  ·exact lfM_pre r K.tail p z h
end
theorem lky_inj {c d : ByteArray} (h : lky c = lky d) : c = d := by injection h
theorem lf_bare {T : VT} (h1 : T.ls = []) (h2 : T.vs = []) (p : List PStep) : lfT T p = [(p, T)] := by
 rw [lfT_at, h1, h2]; simp
theorem lf_list {L : List VT} (hL : L ≠ []) (p : List PStep) : lfT (.mk 5 0 ⟨#[]⟩ L [] []) p = lfL L 0 p := by
 rw [lfT, if_pos ⟨rfl, List.length_pos_iff.2 hL⟩]
theorem lf_map {K : List ByteArray} {V : List VT} (hV : V ≠ []) (p : List PStep) : lfT (.mk 6 0 ⟨#[]⟩ [] K V) p = lfM V K p := by
 rw [lfT, if_neg (fun h => absurd h.1 (by decide)), if_pos ⟨rfl, List.length_pos_iff.2 hV⟩]
theorem lf_sub {T : VT} (h : Nrm T) : ∀ (l : Lvs) (q : List PStep), (∀ z ∈ lfT T q, z ∈ l) → (∀ z ∈ l, ∀ r, z.1 = q ++ r → z ∈ lfT T q) → SubOf l q T := by
 induction h with
 | @leaf T h1 h2 =>
  intro l q hin hout
  rw [lf_bare h1 h2] at hin hout
  refine sub_leaf h1 h2 (hin _ (by simp)) (fun r t hr hm => ?_)
  have := hout _ hm r rfl
  rw [List.mem_singleton] at this
  injection this with e1 e2
  exact ⟨by simpa using e1, e2⟩
 | @list L hL hs ih =>
  intro l q hin hout
  rw [lf_list hL] at hin hout
  refine sub_list hL (fun i t hi => ih t (List.mem_of_getElem? hi) l _ (fun z hz => hin z (lfL_mem L 0 q z i t hi (by rw [Nat.zero_add]; exact hz))) (fun z hz r hr => ?_)) (fun r t hr hm => ?_)
  ·obtain ⟨j, u, h1, h2⟩ := mem_lfL L 0 q z (hout z hz (lpl i :: r) (by rw [hr]; simp))
   rw [Nat.zero_add] at h2
   obtain ⟨x, h3, -⟩ := lf_pre u _ z h2
   rw [hr, List.append_assoc, List.append_assoc] at h3
   have e := List.append_cancel_left h3
   simp only [List.cons_append, List.nil_append, List.cons.injEq] at e
   have e1 := lpl_inj e.1
   subst e1
   rw [hi] at h1; injection h1 with h1; subst h1
   exact h2
  ·obtain ⟨j, u, h1, h2⟩ := mem_lfL L 0 q _ (hout _ hm r rfl)
   rw [Nat.zero_add] at h2
   obtain ⟨x, h3, -⟩ := lf_pre u _ _ h2
   rw [List.append_assoc] at h3
   have e := List.append_cancel_left h3
   exact ⟨j, x, e, lt_of_some h1⟩
 | @map K V hV hl hk hs ih =>
  intro l q hin hout
  rw [lf_map hV] at hin hout
  refine sub_map hV hl hk (fun i c t hc hi => ih t (List.mem_of_getElem? hi) l _ (fun z hz => hin z (lfM_mem V K q z i t c hi hc hz)) (fun z hz r hr => ?_)) (fun r t hr hm => ?_)
  ·obtain ⟨j, u, d, h1, h1', h2⟩ := mem_lfM V K q z hl (hout z hz (lky c :: r) (by rw [hr]; simp))
   obtain ⟨x, h3, -⟩ := lf_pre u _ z h2
   rw [hr, List.append_assoc, List.append_assoc] at h3
   have e := List.append_cancel_left h3
   simp only [List.cons_append, List.nil_append, List.cons.injEq] at e
   have e1 := lky_inj e.1
   subst e1
   have := strict_ne hk hc h1'
   subst this
   rw [hi] at h1; injection h1 with h1; subst h1
   exact h2
  ·obtain ⟨j, u, d, h1, h1', h2⟩ := mem_lfM V K q _ hl (hout _ hm r rfl)
   obtain ⟨x, h3, -⟩ := lf_pre u _ _ h2
   rw [List.append_assoc] at h3
   have e := List.append_cancel_left h3
   exact ⟨d, x, e, List.mem_of_getElem? h1'⟩
theorem lf_tree {T : VT} (h : Nrm T) : TreeOf (lfT T []) T := sub_tree (lf_sub h _ _ (fun _ hz => hz) (fun _ hz _ _ => hz))
theorem cl_app : ∀ (p a b : List PStep), clP (p ++ a) (p ++ b) = clP a b
 | [], a, b => rfl
 | x :: p, a, b => by
  rw [List.cons_append, List.cons_append, clP, if_pos rfl, if_pos rfl]
  exact cl_app p a b
def Pw (l : Lvs) : Prop := l.Pairwise fun a b => clP a.1 b.1 = false
theorem cl_pl {i j : Nat} (h : i ≠ j) (p a b : List PStep) : clP (p ++ [lpl i] ++ a) (p ++ [lpl j] ++ b) = false := by
 rw [List.append_assoc, List.append_assoc, cl_app, List.cons_append, List.cons_append, clP, if_pos (show (lpl i).place = (lpl j).place from rfl), if_neg (fun e => h (lpl_inj e))]
theorem cl_ky {c d : ByteArray} (h : c ≠ d) (p a b : List PStep) : clP (p ++ [lky c] ++ a) (p ++ [lky d] ++ b) = false := by
 rw [List.append_assoc, List.append_assoc, cl_app, List.cons_append, List.cons_append, clP, if_pos (show (lky c).place = (lky d).place from rfl), if_neg (fun e => h (lky_inj e))]
theorem lfL_pw (p : List PStep) : ∀ (L : List VT) (i : Nat), (∀ t ∈ L, ∀ q, Pw (lfT t q)) → Pw (lfL L i p)
 | [], _, _ => .nil
 | t :: r, i, h => by
  rw [lfL]
  refine List.pairwise_append.2 ⟨h t (by simp) _, lfL_pw p r (i + 1) (fun u hu => h u (by simp [hu])), fun a ha b hb => ?_⟩
  obtain ⟨j, u, -, h2⟩ := mem_lfL r (i + 1) p b hb
  obtain ⟨x, h3, -⟩ := lf_pre t _ a ha
  obtain ⟨y, h4, -⟩ := lf_pre u _ b h2
  rw [h3, h4]
  exact cl_pl (by omega) _ _ _
theorem lfM_pw (p : List PStep) : ∀ (V : List VT) (K : List ByteArray), K.length = V.length → Strict K → (∀ t ∈ V, ∀ q, Pw (lfT t q)) → Pw (lfM V K p)
 | [], _, _, _, _ => .nil
 | t :: r, [], hl, _, _ => by simp at hl
 | t :: r, c :: K, hl, hk, h => by
  rw [lfM]
  refine List.pairwise_append.2 ⟨h t (by simp) _, lfM_pw p r K (by simpa using hl) (strict_tail hk) (fun u hu => h u (by simp [hu])), fun a ha b hb => ?_⟩
  obtain ⟨j, u, d, -, h1, h2⟩ := mem_lfM r K p b (by simpa using hl) hb
  obtain ⟨x, h3, -⟩ := lf_pre t _ a ha
  obtain ⟨y, h4, -⟩ := lf_pre u _ b h2
  rw [h3, h4]
  refine cl_ky (fun e => ?_) _ _ _
  have e : c = d := e
  subst e
  have := strict_ne hk (i := 0) (j := j + 1) (a := c) rfl (by simpa using h1)
  omega
theorem lf_pw {T : VT} (h : Nrm T) : ∀ q, Pw (lfT T q) := by
 induction h with
 | @leaf T h1 h2 => intro q; rw [lf_bare h1 h2]; exact List.pairwise_singleton _ _
 | @list L hL hs ih => intro q; rw [lf_list hL]; exact lfL_pw q L 0 ih
 | @map K V hV hl hk hs ih => intro q; rw [lf_map hV]; exact lfM_pw q V K hl hk ih
theorem lf_cn {T : VT} {z : List PStep × VT} (h : z ∈ lfT T []) : AllCn z.1 := by
 obtain ⟨r, h1, h2⟩ := lf_pre T [] z h
 rw [h1]; exact h2
theorem lf_noBad {T : VT} (h : Nrm T) (k : Nat) : badE (lfT T []) k = 0 := by
 unfold badE
 cases he : (lfT T [])[k]? with
 | none => rfl
 | some e =>
  have hm := List.mem_of_getElem? he
  have hb := ((lf_tree h).2 e.1 e.2 (lf_cn hm)).2 hm
  have h1 : partsB e.2 = false := by unfold partsB; rw [hb.2.1, hb.2.2]; rfl
  have h2 : (((lfT T []).take k).any fun x => clP x.1 e.1) = false := by
   rw [List.any_eq_false]
   intro x hx
   obtain ⟨j, hj⟩ := List.getElem?_of_mem hx
   have hjk : j < k := by have := lt_of_some hj; rw [List.length_take] at this; omega
   rw [List.getElem?_take_of_lt hjk] at hj
   have := List.pairwise_iff_getElem.1 (lf_pw h []) j k (lt_of_some hj) (lt_of_some he) hjk
   obtain ⟨_, e1⟩ := List.getElem?_eq_some_iff.1 hj
   obtain ⟨_, e2⟩ := List.getElem?_eq_some_iff.1 he
   rw [e1, e2] at this
   rw [this]; decide
  simp only [h1, h2, Bool.false_eq_true, if_false]
theorem nrm_get : ∀ (q : List PStep) {T U : VT}, Nrm T → getP T q = some U → Nrm U
 | [], T, U, h, hU => by simp only [getP, Option.some.injEq] at hU; subst hU; exact h
 | x :: q, T, U, h, hU => by
  obtain ⟨u, hu, hg⟩ := get_kid hU
  refine nrm_get q ?_ hg
  cases h with
  | leaf h1 h2 =>
   rcases hu with ⟨i, hu⟩ | ⟨i, hu⟩
   ·rw [h1] at hu; simp at hu
   ·rw [h2] at hu; simp at hu
  | list hL hs =>
   rcases hu with ⟨i, hu⟩ | ⟨i, hu⟩
   ·exact hs u (List.mem_of_getElem? hu)
   ·simp [VT.vs] at hu
  | map hV hl hk hs =>
   rcases hu with ⟨i, hu⟩ | ⟨i, hu⟩
   ·simp [VT.ls] at hu
   ·exact hs u (List.mem_of_getElem? hu)
theorem lf_whole {T : VT} (h : Nrm T) (q : List PStep) (hq : AllCn q) : WholeAt (lfT T []) q := by
 rintro a ⟨e, he, s, ⟨r, hr⟩, rfl⟩ k hk hka
 have hcn := lf_cn he
 rw [← hr] at hcn
 have hs : Cn s := hcn s (by simp)
 have hrc : AllCn r := fun x hx => hcn x (by simp [hx])
 rcases hs.cases with ⟨i, rfl⟩ | ⟨c, rfl⟩
 ·have hL := ((lf_tree h).2 e.1 e.2 (lf_cn he)).2 he
  have hg := hL.1
  rw [← hr, List.append_assoc, get_join] at hg
  obtain ⟨U, hU, hg⟩ := Option.bind_eq_some_iff.1 hg
  have hNU : Nrm U := nrm_get q h hU
  simp only [List.cons_append, List.nil_append] at hg
  have hka : k < (i : Int) := hka
  cases hNU with
  | @leaf _ h1 h2 =>
   obtain ⟨k', n', s', L', K', V'⟩ := U
   simp only [VT.ls, VT.vs] at h1 h2
   subst h1 h2
   rw [bare_get (cn_lpl i)] at hg; cases hg
  | @map K V hV hl hk hs => rw [get_lpl_no (by decide)] at hg; cases hg
  | @list L hL0 hs' =>
   rw [get_lpl] at hg
   obtain ⟨t, ht, -⟩ := Option.bind_eq_some_iff.1 hg
   have hi := lt_of_some ht
   obtain ⟨j, rfl⟩ := Int.eq_ofNat_of_zero_le hk
   obtain ⟨u, hu⟩ : ∃ u, L[j]? = some u := ⟨_, List.getElem?_eq_getElem (by omega)⟩
   obtain ⟨r', t', h3, h4, h5⟩ := nrm_leaf (hs' u (List.mem_of_getElem? hu))
   refine ⟨(q ++ lpl j :: r', t'), ((lf_tree h).2 _ _ (hq.app (AllCn.cons (cn_lpl j) h3))).1 ⟨?_, h5⟩, lpl j, ⟨r', by simp⟩, rfl⟩
   rw [get_join, hU, Option.bind_some, get_lpl, hu]; exact h4
 ·have : (0 : Int) = (lky c).at_ := rfl
  omega
theorem lf_noGap {T : VT} (h : Nrm T) (k : Nat) : ¬ GapAt (lfT T []) k := by
 rintro ⟨e, he, q, s, ⟨r, hr⟩, -, hw⟩
 have hcn := lf_cn (List.mem_of_getElem? he)
 rw [← hr] at hcn
 exact hw (lf_whole h q (fun x hx => hcn x (by simp [hx])))
theorem lf_build {T : VT} (h : Nrm T) (hm : mayB 0 1 T = true) : BP (lfT T []) 0 0 T := by
 refine .ok T ?_ (lf_noBad h) (lf_noGap h) (lf_tree h) hm
 intro e
 obtain ⟨r, t, h1, h2⟩ := nrm_leaf h
 have := ((lf_tree h).2 r t h1).1 h2
 rw [e] at this; simp at this
end Go.Proofs.YteimbjamnfkapaaGreatDoor
/- What Unflat says is one. -/
namespace Go.Proofs.YteimbjamnfkapaaGreatDoor
open Go.RowKit
theorem map_some_inj : ∀ {A B : List (List PStep)}, A.map some = B.map some → A = B
 | [], [], _ => rfl
 | [], _ :: _, h => by simp at h
 | _ :: _, [], h => by simp at h
 | a :: A, b :: B, h => by
  simp only [List.map_cons, List.cons.injEq, Option.some.injEq] at h
  rw [h.1, map_some_inj h.2]
theorem first_one {f : Nat → Int} {i j : Nat} (h1 : ∀ k, k < i → f k = 0) (h2 : f i ≠ 0) (h3 : ∀ k, k < j → f k = 0) (h4 : f j ≠ 0) : i = j := by
 rcases Nat.lt_trichotomy i j with h | h | h
 ·exact absurd (h3 i h) h2
 ·exact h
 ·exact absurd (h1 j h) h4
theorem CP.one {K : List ByteArray} {k k' : Int} {i i' : Nat} {C C' : List (List PStep)} (h : CP K k i C) (h' : CP K k' i' C') : k = k' ∧ i = i' ∧ C = C' := by
 cases h with
 | bad i h1 h2 h3 =>
  cases h' with
  | bad i' h1' h2' h3' => have := first_one h1 h2 h1' h2'; subst this; exact ⟨rfl, rfl, rfl⟩
  | ok C' h1' h2' => exact absurd (h1' i) h2
 | ok C h1 h2 =>
  cases h' with
  | bad i' h1' h2' h3' => exact absurd (h1 i') h2'
  | ok C' h1' h2' => exact ⟨rfl, rfl, map_some_inj (h2.symm.trans h2')⟩
theorem MP.one {C : List (List PStep)} {R : List ByteArray} {k k' : Int} {i i' : Nat} {T T' : VT} (h : MP C R k i T) (h' : MP C R k' i' T') : k = k' ∧ i = i' ∧ T = T' := by
 cases h with
 | bad i h1 h2 =>
  cases h' with
  | bad i' h1' h2' => have := first_one h1 h2 h1' h2'; subst this; exact ⟨rfl, rfl, rfl⟩
  | none h1' _ => exact absurd (h1' i) h2
  | fault _ _ _ _ h1' _ _ _ _ => exact absurd (h1' i) h2
  | nomap _ h1' _ _ _ => exact absurd (h1' i) h2
  | ok _ h1' _ _ _ => exact absurd (h1' i) h2
 | none h1 h2 =>
  cases h' with
  | bad i' h1' h2' => exact absurd (h1 i') h2'
  | none _ _ => exact ⟨rfl, rfl, rfl⟩
  | fault _ _ _ _ _ h2' _ _ _ => exact absurd h2 h2'
  | nomap _ _ h2' _ _ => exact absurd h2 h2'
  | ok _ _ h2' _ _ => exact absurd h2 h2'
 | fault k i T c h1 h2 h3 h4 h5 =>
  cases h' with
  | bad i' h1' h2' => exact absurd (h1 i') h2'
  | none _ h2' => exact absurd h2' h2
  | fault k' i' T' c' h1' h2' h3' h4' h5' =>
   obtain ⟨e1, e2, e3⟩ := h3.one h3'
   subst e1 e2 e3
   rw [h5] at h5'; injection h5' with h5'
   exact ⟨rfl, h5', rfl⟩
  | nomap _ _ _ h3' _ => exact absurd (h3.one h3').1 h4
  | ok _ _ _ h3' _ => exact absurd (h3.one h3').1 h4
 | nomap T h1 h2 h3 h4 =>
  cases h' with
  | bad i' h1' h2' => exact absurd (h1 i') h2'
  | none _ h2' => exact absurd h2' h2
  | fault _ _ _ _ _ _ h3' h4' _ => exact absurd (h3'.one h3).1 h4'
  | nomap _ _ _ _ _ => exact ⟨rfl, rfl, rfl⟩
  | ok T' _ _ h3' h4' => have := (h3.one h3').2.2; subst this; exact absurd h4' h4
 | ok T h1 h2 h3 h4 =>
  cases h' with
  | bad i' h1' h2' => exact absurd (h1 i') h2'
  | none _ h2' => exact absurd h2' h2
  | fault _ _ _ _ _ _ h3' h4' _ => exact absurd (h3'.one h3).1 h4'
  | nomap T' _ _ h3' h4' => have := (h3.one h3').2.2; subst this; exact absurd h4 h4'
  | ok T' _ _ h3' h4' => exact ⟨rfl, rfl, (h3.one h3').2.2⟩
theorem all_one {C : List (List PStep)} {Rs : List (List ByteArray)} {A B : List VT} (ha : A.length = Rs.length) (hb : B.length = Rs.length) (h1 : ∀ (i : Nat) (R : List ByteArray), Rs[i]? = some R → ∃ T, A[i]? = some T ∧ MP C R 0 0 T) (h2 : ∀ (i : Nat) (R : List ByteArray), Rs[i]? = some R → ∃ T, B[i]? = some T ∧ MP C R 0 0 T) : A = B := by
 apply List.ext_getElem?
 intro i
 rcases Nat.lt_or_ge i Rs.length with hi | hi
 ·obtain ⟨a, ha1, ha2⟩ := h1 i _ (List.getElem?_eq_getElem hi)
  obtain ⟨b, hb1, hb2⟩ := h2 i _ (List.getElem?_eq_getElem hi)
  rw [ha1, hb1, (ha2.one hb2).2.2]
 ·rw [List.getElem?_eq_none (by omega), List.getElem?_eq_none (by omega)]
theorem UP.one {K : List ByteArray} {Rs : List (List ByteArray)} {k k' : Int} {r r' c c' : Nat} {T T' : VT} (h : UP K Rs k r c T) (h' : UP K Rs k' r' c' T') : k = k' ∧ r = r' ∧ c = c' ∧ T = T' := by
 cases h with
 | col k i C h hk =>
  cases h' with
  | col k' i' C' h' hk' => obtain ⟨e1, e2, e3⟩ := h.one h'; subst e1 e2 e3; exact ⟨rfl, rfl, rfl, rfl⟩
  | row _ _ _ h' _ _ _ => exact absurd (h.one h').1 hk
  | none _ h' _ => exact absurd (h.one h').1 hk
  | bad _ _ _ _ _ _ h' _ _ _ _ _ => exact absurd (h.one h').1 hk
  | great _ _ h' _ _ _ _ _ => exact absurd (h.one h').1 hk
  | ok _ _ h' _ _ _ _ _ => exact absurd (h.one h').1 hk
 | row C i R h h1 h2 h3 =>
  cases h' with
  | col _ _ _ h' hk' => exact absurd (h'.one h).1 hk'
  | row C' i' R' h' h1' h2' h3' =>
   have e : i = i' := by
    rcases Nat.lt_trichotomy i i' with e | e | e
    ·exact absurd (h3' i R e h1) h2
    ·exact e
    ·exact absurd (h3 i' R' e h1') h2'
   subst e
   exact ⟨rfl, rfl, rfl, rfl⟩
  | none _ _ e => subst e; simp at h1
  | bad _ _ _ _ _ _ _ hl _ _ _ _ => exact absurd (hl R (List.mem_of_getElem? h1)) h2
  | great _ _ _ hl _ _ _ _ => exact absurd (hl R (List.mem_of_getElem? h1)) h2
  | ok _ _ _ hl _ _ _ _ => exact absurd (hl R (List.mem_of_getElem? h1)) h2
 | none C h e =>
  cases h' with
  | col _ _ _ h' hk' => exact absurd (h'.one h).1 hk'
  | row _ _ _ _ h1' _ _ => subst e; simp at h1'
  | none _ _ _ => exact ⟨rfl, rfl, rfl, rfl⟩
  | bad _ _ _ _ _ _ _ _ h1' _ _ _ => subst e; simp at h1'
  | great _ _ _ _ hn _ _ _ => exact absurd e hn
  | ok _ _ _ _ hn _ _ _ => exact absurd e hn
 | bad C i R k c T h hl h1 h2 hk h3 =>
  cases h' with
  | col _ _ _ h' hk' => exact absurd (h'.one h).1 hk'
  | row _ _ R' _ h1' h2' _ => exact absurd (hl R' (List.mem_of_getElem? h1')) h2'
  | none _ _ e => subst e; simp at h1
  | bad C' i' R' k' c' T' h' hl' h1' h2' hk' h3' =>
   have eC := (h.one h').2.2
   subst eC
   have e : i = i' := by
    rcases Nat.lt_trichotomy i i' with e | e | e
    ·obtain ⟨T0, h0⟩ := h3' i R e h1; exact absurd (h2.one h0).1 hk
    ·exact e
    ·obtain ⟨T0, h0⟩ := h3 i' R' e h1'; exact absurd (h2'.one h0).1 hk'
   subst e
   rw [h1] at h1'; injection h1' with h1'; subst h1'
   obtain ⟨e1, e2, -⟩ := h2.one h2'
   subst e1 e2
   exact ⟨rfl, rfl, rfl, rfl⟩
  | great C' _ h' _ _ _ ha _ =>
   have eC := (h.one h').2.2
   subst eC
   obtain ⟨T0, -, h0⟩ := ha i R h1; exact absurd (h2.one h0).1 hk
  | ok C' _ h' _ _ _ ha _ =>
   have eC := (h.one h').2.2
   subst eC
   obtain ⟨T0, -, h0⟩ := ha i R h1; exact absurd (h2.one h0).1 hk
 | great C Ts h hl hn ht ha hm =>
  cases h' with
  | col _ _ _ h' hk' => exact absurd (h'.one h).1 hk'
  | row _ _ R' _ h1' h2' _ => exact absurd (hl R' (List.mem_of_getElem? h1')) h2'
  | none _ _ e => exact absurd e hn
  | bad C' i' R' k' c' T' h' hl' h1' h2' hk' h3' =>
   have eC := (h.one h').2.2
   subst eC
   obtain ⟨T0, -, h0⟩ := ha i' R' h1'; exact absurd (h2'.one h0).1 hk'
  | great _ _ _ _ _ _ _ _ => exact ⟨rfl, rfl, rfl, rfl⟩
  | ok C' Ts' h' _ _ ht' ha' hm' =>
   have eC := (h.one h').2.2
   subst eC
   have := all_one ht ht' ha ha'
   subst this
   rw [hm] at hm'; cases hm'
 | ok C Ts h hl hn ht ha hm =>
  cases h' with
  | col _ _ _ h' hk' => exact absurd (h'.one h).1 hk'
  | row _ _ R' _ h1' h2' _ => exact absurd (hl R' (List.mem_of_getElem? h1')) h2'
  | none _ _ e => exact absurd e hn
  | bad C' i' R' k' c' T' h' hl' h1' h2' hk' h3' =>
   have eC := (h.one h').2.2
   subst eC
   obtain ⟨T0, -, h0⟩ := ha i' R' h1'; exact absurd (h2'.one h0).1 hk'
  | great C' Ts' h' _ _ ht' ha' hm' =>
   have eC := (h.one h').2.2
   subst eC
   have := all_one ht ht' ha ha'
   subst this
   rw [hm'] at hm; cases hm
  | ok C' Ts' h' _ _ ht' ha' hm' =>
   have eC := (h.one h').2.2
   subst eC
   have := all_one ht ht' ha ha'
   subst this
   exact ⟨rfl, rfl, rfl, rfl⟩
end Go.Proofs.YteimbjamnfkapaaGreatDoor
/- Known tables, and what Unflat says of them. -/
namespace Go.Proofs.YteimbjamnfkapaaGreatDoor
open Go.RowKit
theorem p_a : prsN ⟨#[97]⟩ = some [lky ⟨#[97]⟩] := by kernel_rfl
theorem p_bc : prsN ⟨#[98, 47, 99]⟩ = some [lky ⟨#[98]⟩, lky ⟨#[99]⟩] := by kernel_rfl
theorem p_a0 : prsN ⟨#[97, 47, 48]⟩ = some [lky ⟨#[97]⟩, lpl 0] := by kernel_rfl
theorem p_a2 : prsN ⟨#[97, 47, 50]⟩ = some [lky ⟨#[97]⟩, lpl 2] := by kernel_rfl
def tA1 : VT := .mk 6 0 ⟨#[]⟩ [] [⟨#[97]⟩, ⟨#[98]⟩] [leafT 2 1 ⟨#[]⟩, .mk 6 0 ⟨#[]⟩ [] [⟨#[99]⟩] [leafT 4 0 ⟨#[120]⟩]]
def tSeven : VT := .mk 5 0 ⟨#[]⟩ [leafT 2 7 ⟨#[]⟩] [] []
theorem strict_sing (c : ByteArray) : Strict [c] := fun i j x y hij hi hj => by
 have h1 := lt_of_some hi
 have h2 := lt_of_some hj
 simp at h1 h2; omega
theorem strict_pair {a b : ByteArray} (h : ltB a.data.toList b.data.toList = true) : Strict [a, b] := fun i j x y hij hi hj => by
 have h2 := lt_of_some hj
 simp at h2
 have : i = 0 ∧ j = 1 := by omega
 obtain ⟨rfl, rfl⟩ := this
 simp at hi hj
 subst hi hj
 exact h
theorem nrm_lf (k n : Int) (s : ByteArray) : Nrm (leafT k n s) := .leaf rfl rfl
theorem nrm_a1 : Nrm tA1 := .map (by simp) rfl (strict_pair (by kernel_rfl)) (fun t ht => by
 simp only [List.mem_cons, List.not_mem_nil, or_false] at ht
 rcases ht with rfl | rfl
 ·exact nrm_lf _ _ _
 ·exact .map (by simp) rfl (strict_sing _) (fun t ht => by
   simp only [List.mem_cons, List.not_mem_nil, or_false] at ht
   subst ht
   exact nrm_lf _ _ _))
theorem nrm_7 : Nrm tSeven := .list (by simp) (fun t ht => by
 simp only [List.mem_cons, List.not_mem_nil, or_false] at ht
 subst ht
 exact nrm_lf _ _ _)
theorem lf_a1 : lfT tA1 [] = [([lky ⟨#[97]⟩], leafT 2 1 ⟨#[]⟩), ([lky ⟨#[98]⟩, lky ⟨#[99]⟩], leafT 4 0 ⟨#[120]⟩)] := by simp [lfT, lfM, tA1, leafT]
theorem lf_7 : lfT tSeven [] = [([lpl 0], leafT 2 7 ⟨#[]⟩)] := by simp [lfT, lfL, tSeven, leafT]
theorem may_a1 : mayB 0 1 tA1 = true ∧ mayB 0 1 (.mk 5 0 ⟨#[]⟩ [tA1] [] []) = true := by constructor <;> kernel_rfl
theorem may_7 : mayB 0 1 tSeven = true := by kernel_rfl
theorem bp_7 : BP [([lpl 0], leafT 2 7 ⟨#[]⟩)] 0 0 tSeven := by have := lf_build nrm_7 may_7; rwa [lf_7] at this
theorem cp_two {a b : ByteArray} {p q : List PStep} (h1 : prsN a = some p) (h2 : prsN b = some q) (h3 : badN [a, b] 1 = 0) : CP [a, b] 0 0 [p, q] := by
 refine .ok _ (fun k => ?_) (by simp [h1, h2])
 match k with
 | 0 => simp [badN, h1, hasN]
 | 1 => exact h3
 | k + 2 => simp [badN]
theorem bc_two {a b : ByteArray} (h1 : badC [a, b] 0 = 0) (h2 : badC [a, b] 1 = 0) (k : Nat) : badC [a, b] k = 0 := by
 match k with
 | 0 => exact h1
 | 1 => exact h2
 | k + 2 => simp [badC]
theorem len_one {n : Nat} {R : List ByteArray} (h : R.length = n) : ∀ R' ∈ [R], R'.length = n := fun R' h' => by rw [List.mem_singleton.1 h']; exact h
theorem up_a1 : UP [⟨#[97]⟩, ⟨#[98, 47, 99]⟩] [[⟨#[49]⟩, ⟨#[120]⟩]] 0 0 0 (.mk 5 0 ⟨#[]⟩ [tA1] [] []) := by
 refine .ok _ [tA1] (cp_two p_a p_bc (by kernel_rfl)) (len_one rfl) (by simp) rfl (fun i R hR => ?_) may_a1.2
 have := lt_of_some hR
 simp at this
 subst this
 simp at hR; subst hR
 have hlv : lvU [[lky ⟨#[97]⟩], [lky ⟨#[98]⟩, lky ⟨#[99]⟩]] [⟨#[49]⟩, ⟨#[120]⟩] 2 = lfT tA1 [] := by rw [lf_a1]; kernel_rfl
 refine ⟨tA1, rfl, .ok tA1 (bc_two (by kernel_rfl) (by kernel_rfl)) ?_ ?_ rfl⟩
 ·change lvU _ _ 2 ≠ []
  rw [hlv, lf_a1]; simp
 ·change BP (lvU _ _ 2) 0 0 tA1
  rw [hlv]; exact lf_build nrm_a1 may_a1.1
theorem be_two {x y : List PStep × VT} (h1 : badE [x, y] 0 = 0) (h2 : badE [x, y] 1 = 0) (k : Nat) : badE [x, y] k = 0 := by
 match k with
 | 0 => exact h1
 | 1 => exact h2
 | k + 2 => simp [badE]
theorem bp_gap : BP [([lky ⟨#[97]⟩, lpl 0], leafT 2 1 ⟨#[]⟩), ([lky ⟨#[97]⟩, lpl 2], leafT 2 2 ⟨#[]⟩)] 8 0 zeroT := by
 refine .gap 0 (by simp) (be_two (by kernel_rfl) (by kernel_rfl)) (fun k hk => absurd hk (Nat.not_lt_zero k)) ⟨_, rfl, [lky ⟨#[97]⟩], lpl 0, ⟨[], rfl⟩, rfl, fun hw => ?_⟩
 obtain ⟨e, he, s, ⟨r, hr⟩, hs⟩ := hw 2 ⟨([lky ⟨#[97]⟩, lpl 2], leafT 2 2 ⟨#[]⟩), by simp, lpl 2, ⟨[], rfl⟩, rfl⟩ 1 (by decide) (by decide)
 simp only [List.mem_cons, List.not_mem_nil, or_false] at he
 rcases he with rfl | rfl
 ·simp only [List.cons_append, List.nil_append, List.cons.injEq] at hr
  rw [hr.2.1] at hs; exact absurd hs (by decide)
 ·simp only [List.cons_append, List.nil_append, List.cons.injEq] at hr
  rw [hr.2.1] at hs; exact absurd hs (by decide)
theorem up_a2 : UP [⟨#[97, 47, 48]⟩, ⟨#[97, 47, 50]⟩] [[⟨#[49]⟩, ⟨#[50]⟩]] 8 1 1 zeroT := by
 refine .bad _ 0 _ 8 1 zeroT (cp_two p_a0 p_a2 (by kernel_rfl)) (len_one rfl) rfl ?_ (by decide) (fun j R' hj => absurd hj (Nat.not_lt_zero j))
 have hlv : lvU [[lky ⟨#[97]⟩, lpl 0], [lky ⟨#[97]⟩, lpl 2]] [⟨#[49]⟩, ⟨#[50]⟩] 2 = [([lky ⟨#[97]⟩, lpl 0], leafT 2 1 ⟨#[]⟩), ([lky ⟨#[97]⟩, lpl 2], leafT 2 2 ⟨#[]⟩)] := by kernel_rfl
 refine .fault 8 0 zeroT 1 (bc_two (by kernel_rfl) (by kernel_rfl)) ?_ ?_ (by decide) (by kernel_rfl)
 ·change lvU _ _ 2 ≠ []
  rw [hlv]; simp
 ·change BP (lvU _ _ 2) 8 0 zeroT
  rw [hlv]; exact bp_gap
end Go.Proofs.YteimbjamnfkapaaGreatDoor
/- The statements of stage 17: what they ask first. -/
namespace Go.Proofs.YteimbjamnfkapaaGreatDoor
open Go.RowKit
theorem unflat_is {K : List ByteArray} {Rs : List (List ByteArray)} {k : Int} {r c : Nat} {T : VT} (u : UP K Rs k r c T) (kv rv : Value) (w : World) (hK : InS w K kv) (hR : InRs w Rs rv) (hg : GlobF w) (hkn : K.length ≤ 1000) (hks : ∀ c ∈ K, c.size ≤ 10000) (hrn : Rs.length ≤ 1000) (hrs : ∀ R ∈ Rs, ∀ c ∈ R, c.size ≤ 1000000) (hcp : ∀ c ∈ K, ∀ p, prsN c = some p → p.length ≤ 1000 ∧ ∀ s ∈ p, OkS s) :
  Calls Tryz.prog 14 #[.agg #[kv, rv]] w fun e w' => ∃ x y, e = .returned (.tuple #[vv T x y, .int .i64 k, .int .i64 ((r : Nat) : Int), .int .i64 ((c : Nat) : Int)]) ∧ HV w' T x y ∧ Below w.heap.size w w' := by
 refine (unflat_any K Rs kv rv w hK hR hg hkn hks hrn hrs hcp).mono ?_
 rintro e w' ⟨T', x, y, k', r', c', rfl, hu, hv, hb⟩
 obtain ⟨rfl, rfl, rfl, rfl⟩ := hu.one u
 exact ⟨x, y, rfl, hv, hb⟩
def PkN (K : List ByteArray) : Prop := ∀ c ∈ K, ∀ p, prsN c = some p → p.length ≤ 1000 ∧ ∀ s ∈ p, OkS s
theorem pk_cons {c : ByteArray} {K : List ByteArray} {q : List PStep} (h : prsN c = some q) (h1 : q.length ≤ 1000) (h2 : ∀ s ∈ q, OkS s) (hK : PkN K) : PkN (c :: K) := fun d hd p hp => by
 rcases List.mem_cons.1 hd with rfl | hd
 ·rw [h] at hp; injection hp with hp; subst hp; exact ⟨h1, h2⟩
 ·exact hK d hd p hp
theorem pk_nil : PkN [] := fun c hc => by simp at hc
theorem pk_a {K : List ByteArray} (hK : PkN K) : PkN (⟨#[97]⟩ :: K) := pk_cons p_a (by decide) (by simp [OkS, lky]; decide) hK
theorem pk_bc {K : List ByteArray} (hK : PkN K) : PkN (⟨#[98, 47, 99]⟩ :: K) := pk_cons p_bc (by decide) (by simp [OkS, lky]; decide) hK
theorem pk_a0 {K : List ByteArray} (hK : PkN K) : PkN (⟨#[97, 47, 48]⟩ :: K) := pk_cons p_a0 (by decide) (by simp [OkS, lky, lpl]; decide) hK
theorem pk_a2 {K : List ByteArray} (hK : PkN K) : PkN (⟨#[97, 47, 50]⟩ :: K) := pk_cons p_a2 (by decide) (by simp [OkS, lky, lpl]; decide) hK
theorem ins_strs {w : World} {b : Nat} {K : List ByteArray} (h : w.heap[b]? = some (.cells (K.map Value.string).toArray 9 (0, 0))) (hs : ∀ c ∈ K, c.size ≤ maxLen) (hl : K.length ≤ 1000) : InS w K (.slice (some ⟨b, 0, none⟩) K.length K.length) := by
 refine ⟨⟨b, 0, none⟩, ⟨_, _, rfl, Nat.le_refl _, by unfold maxLen; omega, fun _ => rfl⟩, fun i c hc => ?_⟩
 rw [add_at, cell_of_row w b i _ _ _ h]
 exact ⟨by simp [hc], hs c (List.mem_of_getElem? hc)⟩
theorem inrs_rows {w : World} {b : Nat} {R : List ByteArray} {v : Value} (h : w.heap[b]? = some (.cells #[v] 22 (0, 0))) (hR : InS w R v) : InRs w [R] (.slice (some ⟨b, 0, none⟩) 1 1) := by
 refine ⟨⟨b, 0, none⟩, ⟨_, _, rfl, Nat.le_refl _, by decide, fun _ => rfl⟩, fun i K hK => ?_⟩
 have := lt_of_some hK
 simp at this
 subst this
 simp at hK; subst hK
 exact ⟨v, by rw [add_at, cell_of_row w b 0 _ _ _ h]; rfl, hR⟩
theorem alloc_at (X : World) (o : Obj) : (X.alloc o).heap[X.heap.size]? = some o := by simp only [World.alloc, Array.getElem?_push_size]
theorem alloc_lt {X : World} {o : Obj} {k : Nat} (h : k < X.heap.size) : (X.alloc o).heap[k]? = X.heap[k]? := (valloc_bel (Below.refl _ X) o).block k h
theorem unflat_tab {K R : List ByteArray} {k : Int} {r c : Nat} {T : VT} (u : UP K [R] k r c T) (w : World) (hg : GlobF w) (hkn : K.length ≤ 1000) (hks : ∀ c ∈ K, c.size ≤ 10000) (hrn : R.length ≤ 1000) (hrs : ∀ c ∈ R, c.size ≤ 1000000) (hcp : PkN K) {n m b1 b2 : Nat} (hn : n = K.length) (hm : m = R.length) (h1 : b1 = w.heap.size + 1) (h2 : b2 = w.heap.size + 2) {a1 a2 : Array Value} (e1 : a1 = (K.map Value.string).toArray) (e2 : a2 = (R.map Value.string).toArray) :
  Calls Tryz.prog 14 #[.agg #[.slice (some ⟨w.heap.size, 0, none⟩) n n, .slice (some ⟨b2, 0, none⟩) 1 1]] (((w.alloc (.cells a1 9)).alloc (.cells a2 9)).alloc (.cells #[.slice (some ⟨b1, 0, none⟩) m m] 22)) fun e w' => ∃ x y, e = .returned (.tuple #[vv T x y, .int .i64 k, .int .i64 ((r : Nat) : Int), .int .i64 ((c : Nat) : Int)]) ∧ HV w' T x y ∧ Below w.heap.size w w' := by
 subst hn hm h1 h2 e1 e2
 have hb : Below w.heap.size w (((w.alloc (.cells (K.map Value.string).toArray 9)).alloc (.cells (R.map Value.string).toArray 9)).alloc (.cells #[.slice (some ⟨w.heap.size + 1, 0, none⟩) R.length R.length] 22)) := valloc_bel (valloc_bel (valloc_bel (Below.refl _ _) _) _) _
 refine (unflat_is u _ _ _ (ins_strs (b := w.heap.size) ?_ (fun c hc => by have := hks c hc; unfold maxLen; omega) hkn) (inrs_rows (b := w.heap.size + 2) (v := .slice (some ⟨w.heap.size + 1, 0, none⟩) R.length R.length) ?_ (ins_strs (b := w.heap.size + 1) ?_ (fun c hc => by have := hrs c hc; unfold maxLen; omega) hrn)) (hg.on hb) hkn hks (Nat.succ_le_succ (Nat.zero_le _)) (fun R' hR' => by rw [List.mem_singleton.1 hR']; exact hrs) hcp).mono ?_
 ·rw [alloc_lt (by simp; omega), alloc_lt (by simp)]; exact alloc_at _ _
 ·have := alloc_at ((w.alloc (.cells (K.map Value.string).toArray 9)).alloc (.cells (R.map Value.string).toArray 9)) (.cells #[.slice (some ⟨w.heap.size + 1, 0, none⟩) R.length R.length] 22)
  rwa [World.size_alloc, World.size_alloc] at this
 ·rw [alloc_lt (by simp)]
  have := alloc_at (w.alloc (.cells (K.map Value.string).toArray 9)) (.cells (R.map Value.string).toArray 9)
  rwa [World.size_alloc] at this
 ·rintro e w' ⟨x, y, rfl, hv, hb2⟩
  exact ⟨x, y, rfl, hv, vonto hb hb2⟩
theorem build_7 (w : World) (hg : GlobF w) {b : Nat} (hb : b = w.heap.size + 1) : Calls Tryz.prog 20 #[.slice (some ⟨b, 0, none⟩) 1 1] ((w.alloc (.cells #[.string ⟨#[]⟩, .int .i64 0, .bool true] 78)).alloc (.cells #[.slice (some ⟨w.heap.size, 0, none⟩) 1 1, .int .i64 2, .int .i64 7, .string ⟨#[]⟩, .slice none 0 0, .slice none 0 0] 43)) fun e w' => ∃ x y, e = .returned (.tuple #[vv tSeven x y, .int .i64 0, .int .i64 ((0 : Nat) : Int)]) ∧ HV w' tSeven x y ∧ Below w.heap.size w w' := by
 subst hb
 have hb : Below w.heap.size w ((w.alloc (.cells #[.string ⟨#[]⟩, .int .i64 0, .bool true] 78)).alloc (.cells #[.slice (some ⟨w.heap.size, 0, none⟩) 1 1, .int .i64 2, .int .i64 7, .string ⟨#[]⟩, .slice none 0 0, .slice none 0 0] 43)) := valloc_bel (valloc_bel (Below.refl _ _) _) _
 have hin : InLf ((w.alloc (.cells #[.string ⟨#[]⟩, .int .i64 0, .bool true] 78)).alloc (.cells #[.slice (some ⟨w.heap.size, 0, none⟩) 1 1, .int .i64 2, .int .i64 7, .string ⟨#[]⟩, .slice none 0 0, .slice none 0 0] 43)) [([lpl 0], leafT 2 7 ⟨#[]⟩)] (.slice (some ⟨w.heap.size + 1, 0, none⟩) 1 1) := by
  refine ⟨⟨w.heap.size + 1, 0, none⟩, ⟨_, _, rfl, Nat.le_refl _, by decide, fun _ => rfl⟩, fun i e he => ?_⟩
  have := lt_of_some he
  simp at this
  subst this
  simp at he; subst he
  refine ⟨.slice (some ⟨w.heap.size, 0, none⟩) 1 1, .slice none 0 0, .slice none 0 0, ?_, ?_, ⟨⟨w.heap.size, 0, none⟩, ⟨_, _, rfl, Nat.le_refl _, by decide, fun _ => rfl⟩, fun i s hs => ?_⟩, hv_leaf _ _ _ _ (by decide) (by decide) (by decide)⟩
  ·rw [add_at]; simp
  ·rw [add_at]; refine ⟨?_, ?_, ?_, ?_, ?_⟩ <;> simp [nx, leafT, VT.kd, VT.nm, VT.st]
  ·have := lt_of_some hs
   simp at this
   subst this
   simp at hs; subst hs
   rw [add_at]
   refine ⟨?_, ?_, ?_, by decide⟩ <;> simp [lpl]
 refine (build_any _ _ _ hin (hg.on hb).1.1 (fun e he => by rw [List.mem_singleton.1 he]; exact AllCn.one (cn_lpl 0)) (fun e he s hs => by rw [List.mem_singleton.1 he] at hs; rw [List.mem_singleton.1 hs]; exact ⟨by decide, by decide, by decide⟩) (by decide) (fun e he => by rw [List.mem_singleton.1 he]; decide)).mono ?_
 rintro e w' ⟨T', x, y, k', i', rfl, hu, hv, hb2⟩
 obtain ⟨rfl, rfl, rfl⟩ := hu.one bp_7
 exact ⟨x, y, rfl, hv.hv, vonto hb hb2⟩
set_option maxRecDepth 100000 in
set_option maxHeartbeats 700000 in
theorem awake17 (w : World) (hg : GlobF w) : Calls Tryz.prog 13 #[] w fun e w' => e = .returned (.bool true) ∧ Below w.heap.size w w' := by
 have HG := hid hg
 clear hg
 go_enter Tryz.func13, Tryz.ntmps13
 go_wp2_with fail
 go_at_call 14
 refine (unflat_tab up_a1 w HG.out (by decide) (by decide) (by decide) (by decide) (pk_a (pk_bc pk_nil)) rfl rfl rfl rfl rfl rfl).mono ?_
 rintro e w1 ⟨x, y, rfl, hv, hb1⟩
 obtain ⟨al, bl, f, g, p, q, oL, oM, cL, cM, rfl, rfl, -, -, hL3, -, -, -, -, -, kL, -, -, rL, -, -, -⟩ := hv.parts
 obtain rfl := hL3 (by decide)
 obtain ⟨a2, b2, f2, g2, p2, q2, oL2, oM2, cL2, cM2, e1, e2, -, -, -, hM3, -, -, -, -, -, -, kM, -, rM, -, -⟩ := (rL 0 tA1 rfl).parts
 have hn1 := kL 0 tA1 rfl
 rw [e1, e2] at hn1
 obtain rfl := hM3 (by decide)
 have hn2 := kM 1 (.mk 6 0 ⟨#[]⟩ [] [⟨#[99]⟩] [leafT 4 0 ⟨#[120]⟩]) rfl
 obtain ⟨a3, b3, f3, g3, p3, q3, oL3, oM3, cL3, cM3, e3, e4, -, -, -, hM3, -, -, -, -, -, -, kM3, -, rM3, -, -⟩ := (rM 1 (.mk 6 0 ⟨#[]⟩ [] [⟨#[99]⟩] [leafT 4 0 ⟨#[120]⟩]) rfl).parts
 rw [e3, e4] at hn2
 obtain rfl := hM3 (by decide)
 have hn3 := kM3 0 (leafT 4 0 ⟨#[120]⟩) rfl
 obtain ⟨-, -, -, -, n4⟩ := hn1
 obtain ⟨-, -, -, -, m4⟩ := hn2
 obtain ⟨-, -, l2, -, -⟩ := hn3
 clear e1 e2 e3 e4 kL rL kM rM kM3 rM3 hv hL3 hM3
 have HB1 := hid hb1
 clear hb1
 simp only [vv, VT.kd, VT.nm, VT.st]
 go_upto_region 2 with fail
 refine cewp_gen ?_
 intro W hW
 have hbW : Below w1.heap.size w1 W := by rw [hW]; exact valloc_bel (Below.refl _ _) _
 have t3 : W.cell? ⟨w1.heap.size, 3, none⟩ = some (.slice (some al) 1 cL) := by rw [hW]; simp [VT.ls]
 have n4 := keepCell hbW n4
 have m4 := keepCell hbW m4
 have l2 := keepCell hbW l2
 have HBW := hid (vonto HB1.out hbW)
 clear hW hbW HB1
 go_wp2_with fail
 go_at_call 14
 refine (unflat_tab up_a2 W (HG.out.on HBW.out) (by decide) (by decide) (by decide) (by decide) (pk_a0 (pk_a2 pk_nil)) rfl rfl rfl rfl rfl rfl).mono ?_
 rintro e w2 ⟨x2, y2, rfl, hv2, hb2⟩
 obtain ⟨ox, nx2, cx, oy, ny2, cy, rfl, rfl⟩ := hv_slices hv2
 have t3 := keepCell hb2 t3
 have n4 := keepCell hb2 n4
 have m4 := keepCell hb2 m4
 have l2 := keepCell hb2 l2
 have HB2 := hid (vonto HBW.out hb2)
 clear hb2 hv2 HBW
 simp only [vv, zeroT, VT.kd, VT.nm, VT.st]
 go_upto_region 3 with fail
 refine cewp_gen ?_
 intro W2 hW
 have hbW : Below w2.heap.size w2 W2 := by rw [hW]; exact valloc_bel (Below.refl _ _) _
 have t3 := keepCell hbW t3
 have n4 := keepCell hbW n4
 have m4 := keepCell hbW m4
 have l2 := keepCell hbW l2
 have HBW := hid (vonto HB2.out hbW)
 clear hW hbW HB2
 go_wp2_with fail
 go_at_call 20
 refine (build_7 W2 (HG.out.on HBW.out) rfl).mono ?_
 rintro e w3 ⟨x3, y3, rfl, hv3, hb3⟩
 have t3 := keepCell hb3 t3
 have n4 := keepCell hb3 n4
 have m4 := keepCell hb3 m4
 have l2 := keepCell hb3 l2
 have HB3 := hid (vonto HBW.out hb3)
 clear hb3 HBW
 obtain ⟨a7, b7, f7, g7, p7, q7, oL7, oM7, cL7, cM7, rfl, rfl, -, -, hL7, -, -, -, -, -, kL7, -, -, -, -, -, -⟩ := hv3.parts
 obtain rfl := hL7 (by decide)
 obtain ⟨-, v1, -, -, -⟩ := kL7 0 (leafT 2 7 ⟨#[]⟩) rfl
 clear kL7 hL7 hv3
 simp only [vv, VT.kd, VT.nm, VT.st, tSeven, VT.ls, VT.vs, List.length_cons, List.length_nil, Nat.zero_add]
 go_upto_region 4 with fail
 refine cewp_gen ?_
 intro W3 hW
 have hbW : Below w3.heap.size w3 W3 := by rw [hW]; exact valloc_bel (Below.refl _ _) _
 have u3 : W3.cell? ⟨w3.heap.size, 3, none⟩ = some (.slice (some a7) 1 cL7) := by rw [hW]; simp
 have t3 := keepCell hbW t3
 have n4 := keepCell hbW n4
 have m4 := keepCell hbW m4
 have l2 := keepCell hbW l2
 have v1 := keepCell hbW v1
 have HBW := hid (vonto HB3.out hbW)
 clear hW hbW HB3
 rw [Nat.zero_mul, show al.add 0 = al by simp [Addr.add]] at n4
 rw [Nat.one_mul] at m4
 rw [Nat.zero_mul, show b3.add 0 = b3 by simp [Addr.add]] at l2
 rw [Nat.zero_mul, show a7.add 0 = a7 by simp [Addr.add]] at v1
 replace n4 : W3.cell? ⟨al.block, al.off + 4, none⟩ = some (.slice (some b2) 2 cM2) := n4
 replace m4 : W3.cell? ⟨b2.block, b2.off + 6 + 1 + 4, none⟩ = some (.slice (some b3) 1 cM3) := m4
 replace l2 : W3.cell? ⟨b3.block, b3.off + 1 + 2, none⟩ = some (.string ⟨#[120]⟩) := l2
 replace v1 : W3.cell? ⟨a7.block, a7.off + 1, none⟩ = some (.int .i64 7) := v1
 go_wp2_with fail
 go_ret
 exact ⟨rfl, HBW.out⟩
end Go.Proofs.YteimbjamnfkapaaGreatDoor
