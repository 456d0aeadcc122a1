
import Derived.Test.YtadbeodeiijhdaaGreatDoorFFlC
import Derived.Test.YtadbeodeiijhdaaGreatDoorFMathFl
import Derived.Test.YtadbeodeiijhdaaGreatDoorFMathCell
import Derived.Test.YtadbeodeiijhdaaGreatDoorFRefMake
import Derived.Test.YtadbeodeiijhdaaGreatDoorFFlJ
/- Plain mathematics of leaves: where they are, of what form their paths; what stands there; how long their cells are. -/
namespace Go.Proofs.YtadbeodeiijhdaaGreatDoor
open Go.RowKit

theorem mem_lfL : ∀ (r : List VT) (i : Nat) (p : List PStep) (z : List PStep × VT), z ∈ lfL r i p → ∃ (j : Nat) (t : VT), r[j]? = some t ∧ z ∈ lfT t (p ++ [lpl (i + j)])
  | [], _, _, _, h => by simp [lfL] at h
  | a :: r, i, p, z, h => by
    rw [lfL, List.mem_append] at h
    rcases h with h | h
    · exact ⟨0, a, rfl, h⟩
    · obtain ⟨j, t, h1, h2⟩ := mem_lfL r (i + 1) p z h
      exact ⟨j + 1, t, h1, by rw [show i + (j + 1) = i + 1 + j by omega]; exact h2⟩
theorem mem_lfM : ∀ (r : List VT) (K : List ByteArray) (p : List PStep) (z : List PStep × VT), K.length = r.length → z ∈ lfM r K p → ∃ (j : Nat) (t : VT) (c : ByteArray), r[j]? = some t ∧ K[j]? = some c ∧ z ∈ lfT t (p ++ [lky c])
  | [], _, _, _, _, h => by simp [lfM] at h
  | a :: r, [], p, z, hl, h => by simp at hl
  | a :: r, c :: K, p, z, hl, h => by
    rw [lfM, List.mem_append] at h
    rcases h with h | h
    · exact ⟨0, a, c, rfl, rfl, h⟩
    · obtain ⟨j, t, d, h1, h2, h3⟩ := mem_lfM r K p z (by simpa using hl) h
      exact ⟨j + 1, t, d, h1, h2, h3⟩
theorem lfL_mem : ∀ (r : List VT) (i : Nat) (p : List PStep) (z : List PStep × VT) (j : Nat) (t : VT), r[j]? = some t → z ∈ lfT t (p ++ [lpl (i + j)]) → z ∈ lfL r i p
  | [], _, _, _, _, _, h, _ => by simp at h
  | a :: r, i, p, z, 0, t, h, hz => by
    simp at h; subst h
    rw [lfL, List.mem_append]; exact .inl hz
  | a :: r, i, p, z, j + 1, t, h, hz => by
    rw [lfL, List.mem_append]
    exact .inr (lfL_mem r (i + 1) p z j t (by simpa using h) (by rw [show i + 1 + j = i + (j + 1) by omega]; exact hz))
theorem lfM_mem : ∀ (r : List VT) (K : List ByteArray) (p : List PStep) (z : List PStep × VT) (j : Nat) (t : VT) (c : ByteArray), r[j]? = some t → K[j]? = some c → z ∈ lfT t (p ++ [lky c]) → z ∈ lfM r K p
  | [], _, _, _, _, _, _, h, _, _ => by simp at h
  | a :: r, [], p, z, j, t, c, _, h, _ => by simp at h
  | a :: r, d :: K, p, z, 0, t, c, h, hc, hz => by
    simp at h hc; subst h hc
    rw [lfM, List.mem_append]; exact .inl hz
  | a :: r, d :: K, p, z, j + 1, t, c, h, hc, hz => by
    rw [lfM, List.mem_append]
    exact .inr (lfM_mem r K p z j t c (by simpa using h) (by simpa using hc) hz)
theorem node_keys {T : VT} (h : plainT T = true) (h6 : T.kd = 6) : keysB T.ks = true := by
  rw [plainT_eq, Bool.and_eq_true, Bool.and_eq_true] at h
  have hn := h.1.1
  unfold nodeB nodeC at hn
  simp only [h6, show ¬ (6 : Int) = 0 by decide, show ¬ (6 : Int) = 1 by decide, show ¬ (6 : Int) = 2 by decide, show ¬ (6 : Int) = 3 by decide, show ¬ (6 : Int) = 4 by decide, show ¬ (6 : Int) = 7 by decide, show ¬ (6 : Int) = 5 by decide, if_false, if_true, Bool.and_eq_true] at hn
  exact hn.2
theorem key_le {T : VT} (h : plainT T = true) (h6 : T.kd = 6) {i : Nat} {c : ByteArray} (hc : T.ks[i]? = some c) : c.size ≤ 4096 := by
  have := keys_at (node_keys h h6) i c hc
  unfold strOkB at this
  simp only [Bool.and_eq_true, decide_eq_true_eq] at this
  exact this.1
/-- what a leaf is -/
structure LfAt (T : VT) (p q : List PStep) (t : VT) (r : List PStep) : Prop where
  e : q = p ++ r
  g : getP T r = some t
  f : ∀ s ∈ r, Frm s ∧ s.key.size ≤ 4096
  h : r.length + 1 ≤ hgT T
  b : t.ls = [] ∧ t.vs = []
  pl : plainT t = true
theorem lf_get : ∀ (N : Nat) {T : VT}, szT T ≤ N → plainT T = true → wfT T → szT T ≤ 1000000000 → ∀ (p q : List PStep) (t : VT), (q, t) ∈ lfT T p → ∃ r, LfAt T p q t r
  | 0, T, hN, _, _, _, _, _, _, _ => by have := szT_pos T; omega
  | N + 1, T, hN, hp, hw, hz, p, q, t, h => by
    have hwf := (wfT_eq T).1 hw
    have hh := hg_ls T
    rw [lfT_at] at h
    split at h
    · rename_i h5
      obtain ⟨j, u, h1, h2⟩ := mem_lfL _ _ _ _ h
      have hs := szT_ls T j u h1
      have hj := lt_of_some h1
      have hll := len_sz T
      obtain ⟨r, hr⟩ := lf_get N (T := u) (by omega) (plain_ls hp h1) ((wfL_get _).1 hwf.2.1 j u h1) (by omega) _ _ _ h2
      have hhu := (hgL_get T.ls _).1 (Nat.le_refl _) j u h1
      have e := hr.e
      rw [Nat.zero_add] at e
      refine ⟨lpl j :: r, by rw [e]; simp, ?_, ?_, ?_, hr.b, hr.pl⟩
      · simp only [getP]
        rw [show idxT T (lpl j) = some j from idx_pl h5.1 hj, Option.bind_some, show kidT T (lpl j) j = some u by unfold kidT lpl; rw [if_pos rfl]; exact h1]
        exact hr.g
      · intro s hs
        rcases List.mem_cons.1 hs with rfl | hs
        · exact ⟨Or.inl ⟨rfl, rfl, by simp [lpl], by simp [lpl]; omega⟩, Nat.zero_le _⟩
        · exact hr.f s hs
      · have := hr.h; simp only [List.length_cons]; omega
    · split at h
      · rename_i h6
        obtain ⟨j, u, c, h1, hc, h2⟩ := mem_lfM _ _ _ _ hwf.1 h
        have hs := szT_vs T j u h1
        obtain ⟨r, hr⟩ := lf_get N (T := u) (by omega) (plain_vs hp h1) ((wfL_get _).1 hwf.2.2 j u h1) (by omega) _ _ _ h2
        have hhu := (hgL_get T.vs _).1 (Nat.le_refl _) j u h1
        refine ⟨lky c :: r, by rw [hr.e]; simp, ?_, ?_, ?_, hr.b, hr.pl⟩
        · simp only [getP]
          rw [show idxT T (lky c) = some j from idx_ky h6.1 (plain_keys hp) hc, Option.bind_some, show kidT T (lky c) j = some u by unfold kidT; rw [if_neg (show ¬ (lky c).place = true from Bool.false_ne_true)]; exact h1]
          exact hr.g
        · intro s hs
          rcases List.mem_cons.1 hs with rfl | hs
          · exact ⟨Or.inr ⟨rfl, rfl⟩, key_le hp h6.1 hc⟩
          · exact hr.f s hs
        · have := hr.h; simp only [List.length_cons]; omega
      · rename_i h5 h6
        simp only [List.mem_singleton, Prod.mk.injEq] at h
        obtain ⟨rfl, rfl⟩ := h
        exact ⟨[], ⟨by simp, rfl, fun s hs => absurd hs List.not_mem_nil, by have := hgT_pos t; simp only [List.length_nil]; omega, leaf_bare hp h5 h6, hp⟩⟩
/-- what stands at a path and has no parts is a leaf -/
theorem get_lf : ∀ (r : List PStep) {T : VT} (p : List PStep) (t : VT), plainT T = true → wfT T → getP T r = some t → (t.ls = [] ∧ t.vs = []) → (∀ s ∈ r, Frm s) → (p ++ r, t) ∈ lfT T p
  | [], T, p, t, hp, hw, h, hb, _ => by
    simp only [getP, Option.some.injEq] at h
    subst h
    rw [lfT_at, if_neg (by rw [hb.1]; simp), if_neg (by rw [hb.2]; simp)]
    simp
  | s :: r, T, p, t, hp, hw, h, hb, hf => by
    have hwf := (wfT_eq T).1 hw
    obtain ⟨i, u, h1, h2, h3⟩ := get_head h
    have hfs := hf s (by simp)
    unfold idxT at h1
    unfold kidT at h2
    rw [lfT_at]
    cases hpl : s.place with
    | true =>
      rw [hpl, if_pos rfl] at h1 h2
      split at h1
      · rename_i hc
        injection h1 with h1
        have hi := lt_of_some h2
        have h5 : T.kd = 5 := by omega
        rw [if_pos ⟨h5, by omega⟩]
        refine lfL_mem _ _ _ _ i u h2 ?_
        have hs : s = lpl i := by
          rcases hfs with ⟨-, b1, b2, -⟩ | ⟨b1, -⟩
          · refine ps_ext _ _ (by rw [b1]; rfl) ?_ (by rw [hpl]; rfl)
            show s.at_ = (i : Int); omega
          · rw [hpl] at b1; cases b1
        have := get_lf r (p ++ [lpl i]) t (plain_ls hp h2) ((wfL_get _).1 hwf.2.1 i u h2) h3 hb (fun x hx => hf x (by simp [hx]))
        rw [Nat.zero_add, hs]
        simpa using this
      · cases h1
    | false =>
      rw [hpl] at h1 h2
      simp only [Bool.false_eq_true, if_false] at h1 h2
      split at h1
      · rename_i h6
        have hi := lt_of_some h2
        rw [if_neg (by omega), if_pos ⟨h6, by omega⟩]
        obtain ⟨hlt, c, hc, hk⟩ := firstI_lt h1
        have hs : s = lky c := by
          rcases hfs with ⟨b1, -⟩ | ⟨-, b2⟩
          · rw [hpl] at b1; cases b1
          · refine ps_ext _ _ ?_ b2 (by rw [hpl]; rfl)
            unfold keyIs at hk
            rw [decide_eq_true_iff] at hk
            exact hk.symm
        refine lfM_mem _ _ _ _ i u c h2 hc ?_
        have := get_lf r (p ++ [lky c]) t (plain_vs hp h2) ((wfL_get _).1 hwf.2.2 i u h2) h3 hb (fun x hx => hf x (by simp [hx]))
        rw [hs]
        simpa using this
      · cases h1
theorem leaf_cel {t : VT} (hb : t.ls = [] ∧ t.vs = []) (hp : plainT t = true) : celB t = true := by
  have h1 : szT t = 1 := by rw [sz_both, hb.1, hb.2]; simp [szL]
  have h2 : hgT t = 1 := by rw [hg_both, hb.1, hb.2]; simp [hgL]
  unfold celB mayB
  rw [hb.1, hb.2, h1, h2, hp]
  decide
theorem cst_le (l : List UInt8) : (cstL l).length ≤ l.length + 1 := by unfold cstL; split <;> simp
theorem cel_small {t : VT} (hp : plainT t = true) (hn : -9223372036854775808 ≤ t.nm ∧ t.nm < 9223372036854775808) : (cellP t).size ≤ 5000 := by
  unfold cellP
  split
  · show ((celW t).toArray).size ≤ 5000
    rw [List.size_toArray]
    rw [plainT_eq, Bool.and_eq_true, Bool.and_eq_true] at hp
    have hnode := hp.1.1
    unfold nodeB nodeC at hnode
    have hz := size_list t.st
    unfold celW celS
    by_cases h1 : t.kd = 1
    · rw [if_pos h1]; split <;> simp
    rw [if_neg h1]
    by_cases h2 : t.kd = 2
    · rw [if_pos h2]; have := txt_short t.nm hn; omega
    rw [if_neg h2]
    by_cases h3 : t.kd = 3
    · rw [if_pos h3]
      simp [h3] at hnode
      have := num_len hnode.1.1.2.1
      omega
    rw [if_neg h3]
    by_cases h4 : t.kd = 4
    · rw [if_pos h4]
      simp [h4] at hnode
      have h5 := teI_size hnode.1.1.2
      have h6 := cst_le t.st.data.toList
      omega
    rw [if_neg h4]
    by_cases h7 : t.kd = 7
    · rw [if_pos h7]
      simp [h7] at hnode
      have h5 := hnode.1.1.2
      unfold stampB at h5
      simp only [Bool.and_eq_true, decide_eq_true_eq] at h5
      simp only [List.length_cons]
      omega
    rw [if_neg h7]
    split
    · simp
    · split <;> simp
  · exact Nat.zero_le _
end Go.Proofs.YtadbeodeiijhdaaGreatDoor
/- flat.Flat: what it says; its memory: the maps' leaves, the rows. -/
namespace Go.Proofs.YtadbeodeiijhdaaGreatDoor
open Go.RowKit

def flatX (T : VT) : List (List (List PStep × VT)) := T.ls.map fun t => lfT t []
def flatC (T : VT) : List (List PStep) := colA (flatX T)
def flatN (T : VT) : List ByteArray := (flatC T).map nmP
def flatW (T : VT) : List (List ByteArray) := (flatX T).map fun l => rowM l (flatC T)
def flatL (T : VT) : Bool := (flatN T).any longS || (flatW T).any longR
def flatE (T : VT) : Int := if lomB T = false then 1 else if 512 < T.ls.length then 2 else if 64 < (flatC T).length then 2 else if flatL T = true then 2 else 0
def flatH (T : VT) : List ByteArray := if flatE T = 0 then flatN T else []
def flatR (T : VT) : List (List ByteArray) := if flatE T = 0 then flatW T else []
/-- what Flat leaves -/
def FlatPost (T : VT) (w : World) (e : Ending) (w' : World) : Prop := ∃ h r, e = .returned (.tuple #[.agg #[h, r], .int .i64 (flatE T)]) ∧ InS w' (flatH T) h ∧ InRs w' (flatR T) r ∧ Below w.heap.size w w'
theorem ins_nil (w : World) : InS w [] (.slice none 0 0) := ⟨⟨0, 0, none⟩, ⟨none, 0, rfl, Nat.le_refl _, Nat.zero_le _, fun h => absurd h (by simp)⟩, fun i s h => by simp at h⟩
theorem inrs_nil (w : World) : InRs w [] (.slice none 0 0) := ⟨⟨0, 0, none⟩, ⟨none, 0, rfl, Nat.le_refl _, Nat.zero_le _, fun h => absurd h (by simp)⟩, fun i s h => by simp at h⟩
theorem flatpost_no {T : VT} {w w' : World} {e : Ending} {k : Int} (hk : flatE T = k) (h0 : ¬ k = 0) (he : e = .returned (.tuple #[.agg #[.slice none 0 0, .slice none 0 0], .int .i64 k])) (hb : Below w.heap.size w w') : FlatPost T w e w' := by
  refine ⟨.slice none 0 0, .slice none 0 0, by rw [hk]; exact he, ?_, ?_, hb⟩
  · unfold flatH; rw [hk, if_neg h0]; exact ins_nil _
  · unfold flatR; rw [hk, if_neg h0]; exact inrs_nil _
/-- maps' leaves being laid -/
structure MpS (w wr : World) (g n : Nat) (U : List Value) (Es : List (List LE)) : Prop where
  bel : Below w.heap.size w wr
  lo : w.heap.size ≤ g
  own : wr.ownsRow w.heap.size 30 1 (.slice (some ⟨g, 0, none⟩) n n) n U
  es : ∀ (i : Nat) (E : List LE), Es[i]? = some E → ∃ u, U[i]? = some u ∧ wr.ownsRow (g + 1) 37 6 u E.length (E.flatMap lcE) ∧ ∀ e ∈ E, wr.ownsRow (g + 1) 76 3 e.u e.p.length (e.p.flatMap sc) ∧ Bare e
theorem MpS.onto {w wr wr' : World} {g n : Nat} {U : List Value} {Es : List (List LE)} (h : MpS w wr g n U Es) (hb : Below wr.heap.size wr wr') : MpS w wr' g n U Es :=
  ⟨vonto h.bel hb, h.lo, ownsRow_below h.own hb, fun i E hE => by
    obtain ⟨u, h1, h2, h3⟩ := h.es i E hE
    exact ⟨u, h1, ownsRow_below h2 hb, fun e he => ⟨ownsRow_below (h3 e he).1 hb, (h3 e he).2⟩⟩⟩
theorem MpS.ulen {w wr : World} {g n : Nat} {U : List Value} {Es : List (List LE)} (h : MpS w wr g n U Es) : U.length = n := by have := h.own.1; omega
theorem MpS.cell {w wr : World} {g n : Nat} {U : List Value} {Es : List (List LE)} (h : MpS w wr g n U Es) {j : Nat} (hj : j < n) : ∃ c, wr.cell? ⟨g, j, none⟩ = some c := by
  have hl := h.ulen
  exact ⟨U[j], by rw [h.own.cellAt j (by omega), List.getElem?_eq_getElem]⟩
theorem MpS.set {w wr : World} {g n : Nat} {U : List Value} {Es : List (List LE)} (h : MpS w wr g n U Es) (hj : Es.length < n) {v : Value} {E : List LE} (hv : wr.ownsRow (g + 1) 37 6 v E.length (E.flatMap lcE)) (hE : ∀ e ∈ E, wr.ownsRow (g + 1) 76 3 e.u e.p.length (e.p.flatMap sc) ∧ Bare e) :
    MpS w (wr.setCell ⟨g, Es.length, none⟩ v) g n (U.set Es.length v) (Es ++ [E]) := by
  have hl := h.ulen
  refine ⟨vset_bel h.bel h.lo, h.lo, (h.own.stored Es.length v).1, fun i E' hE' => ?_⟩
  by_cases hi : i < Es.length
  · rw [List.getElem?_append_left hi] at hE'
    obtain ⟨u, h1, h2, h3⟩ := h.es i E' hE'
    exact ⟨u, by rw [List.getElem?_set_ne (by omega)]; exact h1, ownsRow_setCell_below h2 (by show g < g + 1; omega) _, fun e he => ⟨ownsRow_setCell_below (h3 e he).1 (by show g < g + 1; omega) _, (h3 e he).2⟩⟩
  · rw [List.getElem?_append_right (by omega)] at hE'
    have hi2 : i = Es.length := by
      have := lt_of_some hE'
      simp at this; omega
    subst hi2
    rw [Nat.sub_self] at hE'
    simp at hE'
    subst hE'
    exact ⟨v, by rw [List.getElem?_set_self (by omega)], ownsRow_setCell_below hv (by show g < g + 1; omega) _, fun e he => ⟨ownsRow_setCell_below (hE e he).1 (by show g < g + 1; omega) _, (hE e he).2⟩⟩
theorem MpS.inMs {w wr : World} {g n : Nat} {U : List Value} {Es : List (List LE)} (h : MpS w wr g n U Es) (hn : Es.length = n) (hm : n ≤ 1000000) (hk : ∀ E ∈ Es, ∀ e ∈ E, ∀ s ∈ e.p, s.key.size ≤ maxLen) : InMs wr (Es.map fun E => E.map LE.pt) (.slice (some ⟨g, 0, none⟩) n n) := by
  refine ⟨⟨g, 0, none⟩, ⟨_, n, by rw [List.length_map, hn], by rw [List.length_map]; omega, by unfold maxLen; omega, fun _ => rfl⟩, fun i l hl => ?_⟩
  rw [List.getElem?_map] at hl
  obtain ⟨E, hE, rfl⟩ := Option.map_eq_some_iff.1 hl
  have hi := lt_of_some hE
  obtain ⟨u, h1, h2, h3⟩ := h.es i E hE
  refine ⟨u, by rw [add_at, h.own.cellAt i (by omega)]; exact h1, inlf_of h2 h3 (hk E (List.mem_of_getElem? hE))⟩
/-- rows being laid -/
structure RwS (w wr : World) (g n : Nat) (U : List Value) (Ks : List (List ByteArray)) : Prop where
  bel : Below w.heap.size w wr
  lo : w.heap.size ≤ g
  own : wr.ownsRow w.heap.size 42 1 (.slice (some ⟨g, 0, none⟩) n n) n U
  es : ∀ (i : Nat) (K : List ByteArray), Ks[i]? = some K → ∃ u, U[i]? = some u ∧ wr.ownsRow (g + 1) 9 1 u K.length (K.map Value.string) ∧ ∀ c ∈ K, c.size ≤ maxLen
theorem RwS.onto {w wr wr' : World} {g n : Nat} {U : List Value} {Ks : List (List ByteArray)} (h : RwS w wr g n U Ks) (hb : Below wr.heap.size wr wr') : RwS w wr' g n U Ks :=
  ⟨vonto h.bel hb, h.lo, ownsRow_below h.own hb, fun i E hE => by
    obtain ⟨u, h1, h2, h3⟩ := h.es i E hE
    exact ⟨u, h1, ownsRow_below h2 hb, h3⟩⟩
theorem RwS.ulen {w wr : World} {g n : Nat} {U : List Value} {Ks : List (List ByteArray)} (h : RwS w wr g n U Ks) : U.length = n := by have := h.own.1; omega
theorem RwS.cell {w wr : World} {g n : Nat} {U : List Value} {Ks : List (List ByteArray)} (h : RwS w wr g n U Ks) {j : Nat} (hj : j < n) : ∃ c, wr.cell? ⟨g, j, none⟩ = some c := by
  have hl := h.ulen
  exact ⟨U[j], by rw [h.own.cellAt j (by omega), List.getElem?_eq_getElem]⟩
theorem RwS.set {w wr : World} {g n : Nat} {U : List Value} {Ks : List (List ByteArray)} (h : RwS w wr g n U Ks) (hj : Ks.length < n) {v : Value} {K : List ByteArray} (hv : wr.ownsRow (g + 1) 9 1 v K.length (K.map Value.string)) (hK : ∀ c ∈ K, c.size ≤ maxLen) :
    RwS w (wr.setCell ⟨g, Ks.length, none⟩ v) g n (U.set Ks.length v) (Ks ++ [K]) := by
  have hl := h.ulen
  refine ⟨vset_bel h.bel h.lo, h.lo, (h.own.stored Ks.length v).1, fun i E' hE' => ?_⟩
  by_cases hi : i < Ks.length
  · rw [List.getElem?_append_left hi] at hE'
    obtain ⟨u, h1, h2, h3⟩ := h.es i E' hE'
    exact ⟨u, by rw [List.getElem?_set_ne (by omega)]; exact h1, ownsRow_setCell_below h2 (by show g < g + 1; omega) _, h3⟩
  · rw [List.getElem?_append_right (by omega)] at hE'
    have hi2 : i = Ks.length := by
      have := lt_of_some hE'
      simp at this; omega
    subst hi2
    rw [Nat.sub_self] at hE'
    simp at hE'
    subst hE'
    exact ⟨v, by rw [List.getElem?_set_self (by omega)], ownsRow_setCell_below hv (by show g < g + 1; omega) _, hK⟩
theorem stro_ins {wr : World} {B : Nat} {K : List ByteArray} {v : Value} (h : wr.ownsRow B 9 1 v K.length (K.map Value.string)) (hs : ∀ c ∈ K, c.size ≤ maxLen) : InS wr K v := by
  have hc := h
  rcases hc with ⟨-, ⟨rfl, h0⟩ | ⟨g, cap, cur, rfl, -, -, hn, hcm, -, -⟩⟩
  · have : K = [] := List.eq_nil_of_length_eq_zero h0
    subst this
    exact ins_nil _
  · refine ⟨⟨g, 0, none⟩, ⟨_, _, rfl, hn, hcm, fun _ => rfl⟩, fun i c hc => ⟨?_, hs c (List.mem_of_getElem? hc)⟩⟩
    have hi := lt_of_some hc
    rw [add_at, h.cellAt i (by omega), List.getElem?_map, hc]; rfl
theorem RwS.inRs {w wr : World} {g n : Nat} {U : List Value} {Ks : List (List ByteArray)} (h : RwS w wr g n U Ks) (hn : Ks.length = n) (hm : n ≤ 1000000) : InRs wr Ks (.slice (some ⟨g, 0, none⟩) n n) := by
  refine ⟨⟨g, 0, none⟩, ⟨_, n, by rw [hn], by omega, by unfold maxLen; omega, fun _ => rfl⟩, fun i K hK => ?_⟩
  have hi := lt_of_some hK
  obtain ⟨u, h1, h2, h3⟩ := h.es i K hK
  exact ⟨u, by rw [add_at, h.own.cellAt i (by omega)]; exact h1, stro_ins h2 h3⟩
theorem Tryz.madeM (n : Nat) (h : n ≤ 1000001) (w : World) : (Instr.makeSlice 78 (.int .i64 (n : Int)) (.int .i64 (n : Int))).run Tryz.prog w = .ok (.slice (some ⟨w.heap.size, 0, none⟩) n n) (w.alloc (.cells (madeCells #[.slice none 0 0] n) 30)) := by
  obtain ⟨i, hi, hz⟩ := Option.map_eq_some_iff.1 (show (Tryz.prog.info? 30).map (fun i => (i.zero, i.size, i.bytes)) = some (some (.slice none 0 0), 1, 24) by kernel_rfl)
  simp only [Prod.mk.injEq] at hz
  obtain ⟨hz, hs, hb⟩ := hz
  have := run_make (P := Tryz.prog) w 78 30 i _ Tryz.underlying78 hi hz .i64 .i64 n n (by omega) (Int.le_refl _) (by rw [hb]; omega) (by omega)
  rw [hs] at this
  simp only [Int.toNat_natCast, Nat.mul_one] at this
  exact this
theorem Tryz.madeR (n : Nat) (h : n ≤ 1000001) (w : World) : (Instr.makeSlice 43 (.int .i64 (n : Int)) (.int .i64 (n : Int))).run Tryz.prog w = .ok (.slice (some ⟨w.heap.size, 0, none⟩) n n) (w.alloc (.cells (madeCells #[.slice none 0 0] n) 42)) := by
  obtain ⟨i, hi, hz⟩ := Option.map_eq_some_iff.1 (show (Tryz.prog.info? 42).map (fun i => (i.zero, i.size, i.bytes)) = some (some (.slice none 0 0), 1, 24) by kernel_rfl)
  simp only [Prod.mk.injEq] at hz
  obtain ⟨hz, hs, hb⟩ := hz
  have := run_make (P := Tryz.prog) w 43 42 i _ Tryz.underlying43 hi hz .i64 .i64 n n (by omega) (Int.le_refl _) (by rw [hb]; omega) (by omega)
  rw [hs] at this
  simp only [Int.toNat_natCast, Nat.mul_one] at this
  exact this
theorem MpS.new (w wr : World) (hb : Below w.heap.size w wr) (n : Nat) (h : n ≤ 1000001) : MpS w (wr.alloc (.cells (madeCells #[.slice none 0 0] n) 30)) wr.heap.size n (List.replicate n (.slice none 0 0)) [] := by
  have hs := hb.size
  refine ⟨valloc_bel hb _, hs, ?_, fun i E h => by simp at h⟩
  have := World.ownsRow_lit (e := 30) (size := 1) (base := w.heap.size) wr (madeCells #[.slice none 0 0] n) n hs (by unfold maxLen; omega) (by rw [size_madeCells]; omega)
  rw [toList_madeCells_one] at this
  exact this
theorem RwS.new (w wr : World) (hb : Below w.heap.size w wr) (n : Nat) (h : n ≤ 1000001) : RwS w (wr.alloc (.cells (madeCells #[.slice none 0 0] n) 42)) wr.heap.size n (List.replicate n (.slice none 0 0)) [] := by
  have hs := hb.size
  refine ⟨valloc_bel hb _, hs, ?_, fun i E h => by simp at h⟩
  have := World.ownsRow_lit (e := 42) (size := 1) (base := w.heap.size) wr (madeCells #[.slice none 0 0] n) n hs (by unfold maxLen; omega) (by rw [size_madeCells]; omega)
  rw [toList_madeCells_one] at this
  exact this
/-- the leaves of a map of a Good list: their paths, their cells -/
theorem lf_good {T t : VT} (hT : mayB 0 1 T = true) (hw : wfT T) {i : Nat} (hi : T.ls[i]? = some t) : ∀ z ∈ lfT t [], ∃ r, LfAt t [] z.1 z.2 r ∧ FrmP z.1 ∧ (∀ s ∈ z.1, Small s) ∧ z.1.length ≤ 100 ∧ (∀ s ∈ z.1, s.key.size ≤ maxLen) := by
  intro z hz
  obtain ⟨h1, h2, h3⟩ := good_sz hT
  have hsz := szT_ls T i t hi
  have hh := hg_ls T
  have hht := (hgL_get T.ls _).1 (Nat.le_refl _) i t hi
  obtain ⟨r, hr⟩ := lf_get (szT t) (T := t) (Nat.le_refl _) (plain_ls h3 hi) ((wfL_get _).1 ((wfT_eq T).1 hw).2.1 i t hi) (by omega) [] z.1 z.2 hz
  have e : z.1 = r := by rw [hr.e]; rfl
  have hl := hr.h
  refine ⟨r, hr, ?_, ?_, by rw [e]; omega, ?_⟩
  · rw [e]; exact fun s hs => (hr.f s hs).1
  · rw [e]
    intro s hs
    obtain ⟨a1, a2⟩ := hr.f s hs
    refine ⟨by omega, ?_⟩
    rcases a1 with ⟨-, -, b1, b2⟩ | ⟨-, b1⟩
    · omega
    · omega
  · rw [e]; exact fun s hs => by have := (hr.f s hs).2; unfold maxLen; omega
end Go.Proofs.YtadbeodeiijhdaaGreatDoor
/- flat.Flat, walked: what is no list of maps; too many maps; and the rest. -/
namespace Go.Proofs.YtadbeodeiijhdaaGreatDoor
open Go.RowKit

theorem pos_in {C : List (List PStep)} {p : List PStep} (h : Good3 C) (hp : p ∈ C) : C[posC C p]? = some p := by
  obtain ⟨i, hi⟩ := List.getElem?_of_mem hp
  have hil := lt_of_some hi
  rcases Nat.lt_trichotomy i (posC C p) with h1 | h1 | h1
  · have := posC_lt C p i p h1 hi
    rw [cp_refl] at this; omega
  · rw [← h1]; exact hi
  · exfalso
    have hl : posC C p < C.length := by omega
    obtain ⟨_, rfl⟩ := List.getElem?_eq_some_iff.1 hi
    have h2 := (List.pairwise_iff_getElem.1 h.s) _ _ hl hil h1
    have h3 := posC_ge C _ _ (List.getElem?_eq_getElem hl)
    omega
theorem lom_parts {T : VT} (h : lomB T = true) : T.kd = 5 ∧ mayB 0 1 T = true ∧ ∀ t ∈ T.ls, t.kd = 6 ∧ 0 < t.vs.length := by
  unfold lomB at h
  simp only [Bool.and_eq_true, decide_eq_true_eq, List.all_eq_true] at h
  obtain ⟨⟨⟨h1, -⟩, h2⟩, h3⟩ := h
  refine ⟨h1, h2, fun t ht => ⟨(h3 t ht).1, ?_⟩⟩
  have := (h3 t ht).2
  cases hv : t.vs with
  | nil => rw [hv] at this; cases this
  | cons a r => simp
set_option maxRecDepth 100000 in
set_option maxHeartbeats 4000000 in
theorem flat_no (T : VT) (x y : Value) (w : World) (hT : HV w T x y) (hg : Glob w) (hl : lomB T = false) :
    Calls Tryz.prog 17 #[vv T x y] w (FlatPost T w) := by
  have HE := hid (show flatE T = 1 by unfold flatE; rw [if_pos hl])
  have HLM := hid (fun (X : World) (hX : Below w.heap.size w X) => lom_any T x y X (hT.onto hX) (hg.on hX))
  rw [hl] at HLM
  obtain ⟨o1, n1, c1, o2, n2, c2, rfl, rfl⟩ := hv_slices hT
  simp only [vv] at HLM ⊢
  clear hT hg hl
  go_enter Tryz.func17, Tryz.ntmps17
  go_wp2_with fail
  go_at_call 34
  refine (HLM.out _ (valloc_bel (valloc_bel (Below.refl _ _) _) _)).mono ?_
  rintro e w2 ⟨rfl, hb2⟩
  have R0 : Hid (Row w2 (w.heap.size + 1) 45 2) := hid (by have := box_row hb2; rwa [World.size_alloc] at this)
  have HB2 := hid (vonto (valloc_bel (valloc_bel (Below.refl w.heap.size w) _) _) hb2)
  clear hb2 HLM
  obtain ⟨u0, e0⟩ := R0.out.cell (o := 0) (by decide)
  obtain ⟨u1, e1⟩ := R0.out.cell (o := 1) (by decide)
  have z0 := R0.out.frozen
  go_wp2_with fail
  refine bodyPost_ret (v := .tuple #[.agg #[.slice none 0 0, .slice none 0 0], .int .i64 1]) (by simp [results, Tryz.results17, go_sem, e0, e1]) rfl (flatpost_no HE.out (by decide) rfl ?_)
  repeat (first | exact HB2.out | (refine vset_bel ?_ (by simp)))
set_option maxRecDepth 100000 in
set_option maxHeartbeats 4000000 in
theorem flat_many (T : VT) (x y : Value) (w : World) (hT : HV w T x y) (hg : Glob w) (hl : lomB T = true) (h512 : 512 < T.ls.length) :
    Calls Tryz.prog 17 #[vv T x y] w (FlatPost T w) := by
  have HE := hid (show flatE T = 2 by unfold flatE; rw [if_neg (by rw [hl]; decide), if_pos h512])
  have HLM := hid (fun (X : World) (hX : Below w.heap.size w X) => lom_any T x y X (hT.onto hX) (hg.on hX))
  rw [hl] at HLM
  obtain ⟨al, bl, f, g, p, q, oL, oM, cL, cM, rfl, rfl, -, -, hL3, hM3, hK, -, hlL, hlM, kL, kK, kM, rL, rM, -, -⟩ := hT.parts
  have h512' : ((512 : Int) < (T.ls.length : Int)) := by omega
  simp only [vv] at HLM ⊢
  clear hT hg hl hL3 hM3 kL kK kM rL rM hK
  go_enter Tryz.func17, Tryz.ntmps17
  go_wp2_with fail
  go_at_call 34
  refine (HLM.out _ (valloc_bel (valloc_bel (Below.refl _ _) _) _)).mono ?_
  rintro e w2 ⟨rfl, hb2⟩
  have R0 : Hid (Row w2 (w.heap.size + 1) 45 2) := hid (by have := box_row hb2; rwa [World.size_alloc] at this)
  have HB2 := hid (vonto (valloc_bel (valloc_bel (Below.refl w.heap.size w) _) _) hb2)
  have z3 : w2.cell? ⟨w.heap.size, 3, none⟩ = some (.slice oL T.ls.length cL) := keepCell hb2 (keepCell (valloc_bel (Below.refl _ _) _) (by simp))
  clear hb2 HLM
  obtain ⟨u0, e0⟩ := R0.out.cell (o := 0) (by decide)
  obtain ⟨u1, e1⟩ := R0.out.cell (o := 1) (by decide)
  have z0 := R0.out.frozen
  go_wp2_with fail
  refine bodyPost_ret (v := .tuple #[.agg #[.slice none 0 0, .slice none 0 0], .int .i64 2]) (by simp [results, Tryz.results17, go_sem, e0, e1]) rfl (flatpost_no HE.out (by decide) rfl ?_)
  repeat (first | exact HB2.out | (refine vset_bel ?_ (by simp)))
end Go.Proofs.YtadbeodeiijhdaaGreatDoor
