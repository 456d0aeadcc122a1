/- Trees that may be: the mathematics of it. -/
import Derived.Test.YtadbeodeiijhdaaGreatDoorFVNode
import Derived.Test.YtadbeodeiijhdaaGreatDoorFVBase
import Derived.Test.YtadbeodeiijhdaaGreatDoorFPathFind
import Derived.Test.YtadbeodeiijhdaaGreatDoorFPathZ8
import Derived.Test.YtadbeodeiijhdaaGreatDoorFVSameT
import Derived.Test.YtadbeodeiijhdaaGreatDoorFPathDoc
import Derived.Deep.Onto
import Derived.Deep.Upon
import Derived.Lib.AppendZeros
import Derived.Deep.AppendLies
import Derived.Test.YtadbeodeiijhdaaGreatDoorFPathOne
/- Plain mathematics of trees and all their paths: each leads to a node; what is set at one stays out of the others' way. -/
/- The document's side: all paths of a tree. -/
namespace Go.Proofs.YtadbeodeiijhdaaGreatDoor
open Go.RowKit

mutual
/-- a tree may be, whatever its size -/
def plainT : VT → Bool
  | .mk k n s L K V => nodeB (.mk k n s L K V) && plainL L && plainL V
def plainL : List VT → Bool
  | [] => true
  | t :: r => plainT t && plainL r
end
theorem plainT_eq (T : VT) : plainT T = (nodeB T && plainL T.ls && plainL T.vs) := by cases T; rw [plainT]; rfl
theorem plainL_get : ∀ (L : List VT), plainL L = true ↔ ∀ (i : Nat) (t : VT), L[i]? = some t → plainT t = true
  | [] => by simp [plainL]
  | a :: r => by
    simp only [plainL, Bool.and_eq_true]
    rw [plainL_get r]
    constructor
    · rintro ⟨h1, h2⟩ i t hi
      cases i with
      | zero => simp at hi; subst hi; exact h1
      | succ i => simp at hi; exact h2 i t hi
    · intro g
      exact ⟨g 0 a rfl, fun i t hi => g (i + 1) t (by simpa using hi)⟩
theorem hgL_get : ∀ (L : List VT) (m : Nat), hgL L ≤ m ↔ ∀ (i : Nat) (t : VT), L[i]? = some t → hgT t ≤ m
  | [], m => by simp [hgL]
  | a :: r, m => by
    simp only [hgL, Nat.max_le]
    rw [hgL_get r m]
    constructor
    · rintro ⟨h1, h2⟩ i t hi
      cases i with
      | zero => simp at hi; subst hi; exact h1
      | succ i => simp at hi; exact h2 i t hi
    · intro g
      exact ⟨g 0 a rfl, fun i t hi => g (i + 1) t (by simpa using hi)⟩
/-- a tree may be, with so many nodes ahead of it, so deep below the top -/
def mayB (c d : Int) (T : VT) : Bool := decide (c + szT T ≤ 4096 ∧ d + hgT T ≤ 33) && plainT T
theorem good_node {c d : Int} {T : VT} (h : mayB c d T = true) : c + 1 ≤ 4096 ∧ d ≤ 32 ∧ nodeB T = true := by
  unfold mayB at h
  simp only [Bool.and_eq_true, decide_eq_true_eq] at h
  have h1 := szT_pos T; have h2 := hgT_pos T
  have h3 := h.2
  rw [plainT_eq] at h3
  simp only [Bool.and_eq_true] at h3
  exact ⟨by omega, by omega, h3.1.1⟩
theorem hg_ls (T : VT) : hgL T.ls + 1 ≤ hgT T ∧ hgL T.vs + 1 ≤ hgT T := by cases T; simp only [hgT, VT.ls, VT.vs]; omega
theorem sz_both (T : VT) : szT T = 1 + szL T.ls + szL T.vs := by cases T; simp only [szT, VT.ls, VT.vs]
theorem hg_both (T : VT) : hgT T = 1 + max (hgL T.ls) (hgL T.vs) := by cases T; simp only [hgT, VT.ls, VT.vs]
theorem good_ls {c d : Int} {T : VT} (h : mayB c d T = true) (i : Nat) (t : VT) (ht : T.ls[i]? = some t) : mayB (c + 1 + szL (T.ls.take i)) (d + 1) t = true := by
  unfold mayB at *
  simp only [Bool.and_eq_true, decide_eq_true_eq] at *
  have h3 := h.2
  rw [plainT_eq] at h3
  simp only [Bool.and_eq_true] at h3
  have h4 := szL_take_succ T.ls i t ht
  have h5 := szL_take_le T.ls (i + 1)
  have h6 := (hgL_get T.ls _).1 (Nat.le_refl _) i t ht
  have h7 := hg_ls T
  have h8 := sz_both T
  exact ⟨⟨by omega, by omega⟩, (plainL_get _).1 h3.1.2 i t ht⟩
theorem good_vs {c d : Int} {T : VT} (h : mayB c d T = true) (i : Nat) (t : VT) (ht : T.vs[i]? = some t) : mayB (c + 1 + szL T.ls + szL (T.vs.take i)) (d + 1) t = true := by
  unfold mayB at *
  simp only [Bool.and_eq_true, decide_eq_true_eq] at *
  have h3 := h.2
  rw [plainT_eq] at h3
  simp only [Bool.and_eq_true] at h3
  have h4 := szL_take_succ T.vs i t ht
  have h5 := szL_take_le T.vs (i + 1)
  have h6 := (hgL_get T.vs _).1 (Nat.le_refl _) i t ht
  have h7 := hg_ls T
  have h8 := sz_both T
  exact ⟨⟨by omega, by omega⟩, (plainL_get _).1 h3.2 i t ht⟩
theorem good_sz {c d : Int} {T : VT} (h : mayB c d T = true) : c + szT T ≤ 4096 ∧ d + hgT T ≤ 33 ∧ plainT T = true := by
  unfold mayB at h
  simp only [Bool.and_eq_true, decide_eq_true_eq] at h
  exact ⟨h.1.1, h.1.2, h.2⟩
theorem good_all {c d : Int} {T : VT} (hd : d ≤ 32) (hc : c + 1 + szL T.ls + szL T.vs ≤ 4096) (hn : nodeB T = true) (h1 : ∀ (i : Nat) (t : VT), T.ls[i]? = some t → d + 1 + hgT t ≤ 33 ∧ plainT t = true) (h2 : ∀ (i : Nat) (t : VT), T.vs[i]? = some t → d + 1 + hgT t ≤ 33 ∧ plainT t = true) : mayB c d T = true := by
  unfold mayB
  have h8 := sz_both T
  have h9 := hg_both T
  have g1 := (hgL_get T.ls (32 - d).toNat).2 (fun i t h => by have := (h1 i t h).1; omega)
  have g2 := (hgL_get T.vs (32 - d).toNat).2 (fun i t h => by have := (h2 i t h).1; omega)
  rw [plainT_eq, hn, (plainL_get _).2 (fun i t h => (h1 i t h).2), (plainL_get _).2 (fun i t h => (h2 i t h).2), decide_eq_true (by constructor <;> omega)]
  rfl
end Go.Proofs.YtadbeodeiijhdaaGreatDoor
namespace Go.Proofs.YtadbeodeiijhdaaGreatDoor
open Go.RowKit

mutual
/-- as many keys as values, all the way down -/
def wfT : VT → Prop
  | .mk _ _ _ L K V => K.length = V.length ∧ wfL L ∧ wfL V
def wfL : List VT → Prop
  | [] => True
  | t :: r => wfT t ∧ wfL r
end
theorem wfT_eq (T : VT) : wfT T ↔ (T.ks.length = T.vs.length ∧ wfL T.ls ∧ wfL T.vs) := by cases T; rw [wfT]; rfl
theorem wfL_get : ∀ (L : List VT), wfL L ↔ ∀ (i : Nat) (t : VT), L[i]? = some t → wfT t
  | [] => by simp [wfL]
  | a :: r => by
    simp only [wfL]
    rw [wfL_get r]
    constructor
    · rintro ⟨h1, h2⟩ i t hi
      cases i with
      | zero => simp at hi; subst hi; exact h1
      | succ i => simp at hi; exact h2 i t hi
    · intro g
      exact ⟨g 0 a rfl, fun i t hi => g (i + 1) t (by simpa using hi)⟩
theorem hv_wfT {w : World} : ∀ (N : Nat) {T : VT} {x y : Value}, szT T ≤ N → HV w T x y → wfT T
  | 0, T, x, y, hN, h => by have := szT_pos T; omega
  | N + 1, T, x, y, hN, h => by
    obtain ⟨a, b, f, g, p, q, oL, oM, cL, cM, -, -, -, -, -, -, hK, -, -, -, -, -, -, rL, rM, -⟩ := h.parts
    rw [wfT_eq]
    refine ⟨hK, (wfL_get _).2 fun i t ht => ?_, (wfL_get _).2 fun i t ht => ?_⟩
    · have := szT_ls T i t ht
      exact hv_wfT N (by omega) (rL i t ht)
    · have := szT_vs T i t ht
      exact hv_wfT N (by omega) (rM i t ht)
/-- keys all different -/
def Apart (K : List ByteArray) : Prop := ∀ (i j : Nat) (c : ByteArray), K[i]? = some c → K[j]? = some c → i = j
theorem keys_lt {K : List ByteArray} (h : keysB K = true) : ∀ (d i : Nat) (a b : ByteArray), K[i]? = some a → K[i + d + 1]? = some b → ltB a.data.toList b.data.toList = true := by
  unfold keysB at h
  rw [decide_eq_true_eq] at h
  intro d
  induction d with
  | zero =>
    intro i a b ha hb
    have := (h (i + 1) (lt_of_some hb)).2 (by omega)
    rw [Nat.add_sub_cancel, getD_some ha, getD_some hb] at this
    exact this
  | succ d ih =>
    intro i a b ha hb
    have hl : i + d + 1 < K.length := by have := lt_of_some hb; omega
    have h1 := ih i a K[i + d + 1] ha (List.getElem?_eq_getElem hl)
    have h2 := (h (i + (d + 1) + 1) (lt_of_some hb)).2 (by omega)
    rw [Nat.add_sub_cancel, getD_some hb, getD_some (show K[i + (d + 1)]? = some K[i + d + 1] from List.getElem?_eq_getElem hl)] at h2
    exact ltB_trans _ _ _ h1 h2
theorem keys_apart {K : List ByteArray} (h : keysB K = true) : Apart K := by
  intro i j c hi hj
  rcases Nat.lt_trichotomy i j with hlt | rfl | hlt
  · have := keys_lt h (j - i - 1) i c c hi (by rw [show i + (j - i - 1) + 1 = j by omega]; exact hj)
    rw [ltB_irr] at this; cases this
  · rfl
  · have := keys_lt h (i - j - 1) j c c hj (by rw [show j + (i - j - 1) + 1 = i by omega]; exact hi)
    rw [ltB_irr] at this; cases this
theorem first_key {K : List ByteArray} (h : Apart K) {i : Nat} {c : ByteArray} (hc : K[i]? = some c) : firstI (keyIs c) K = some i := by
  refine firstI_at hc (by unfold keyIs; exact decide_eq_true rfl) (fun j d hj hd => ?_)
  unfold keyIs
  rw [decide_eq_false_iff_not]
  intro e
  have := ba_eq e
  subst this
  have := h j i d hd hc
  omega
/-- a tree whose maps' keys are apart -/
def Fair (T : VT) : Prop := T.kd = 6 → Apart T.ks
theorem plain_keys {T : VT} (h : plainT T = true) : Fair T := by
  intro h6
  rw [plainT_eq, Bool.and_eq_true, Bool.and_eq_true] at h
  have hn := h.1.1
  unfold nodeB nodeC at hn
  simp only [h6, show ¬ (6 : Int) = 0 by decide, show ¬ (6 : Int) = 1 by decide, show ¬ (6 : Int) = 2 by decide, show ¬ (6 : Int) = 3 by decide, show ¬ (6 : Int) = 4 by decide, show ¬ (6 : Int) = 7 by decide, show ¬ (6 : Int) = 5 by decide, if_false, if_true, Bool.and_eq_true] at hn
  exact keys_apart hn.2
theorem plain_ls {T : VT} (h : plainT T = true) {i : Nat} {t : VT} (ht : T.ls[i]? = some t) : plainT t = true := by
  rw [plainT_eq, Bool.and_eq_true, Bool.and_eq_true] at h
  exact (plainL_get _).1 h.1.2 i t ht
theorem plain_vs {T : VT} (h : plainT T = true) {i : Nat} {t : VT} (ht : T.vs[i]? = some t) : plainT t = true := by
  rw [plainT_eq, Bool.and_eq_true, Bool.and_eq_true] at h
  exact (plainL_get _).1 h.2 i t ht
theorem idx_pl {T : VT} (h : T.kd = 5) {j : Nat} (hj : j < T.ls.length) : idxT T (plS j) = some j := by
  unfold idxT plS
  rw [if_pos rfl, if_pos ⟨h, by simp, by simpa using hj⟩]; simp
theorem idx_ky {T : VT} (h : T.kd = 6) (hf : Fair T) {j : Nat} {c : ByteArray} (hc : T.ks[j]? = some c) : idxT T (kyS c) = some j := by
  unfold idxT
  rw [if_neg (show ¬ (kyS c).place = true from Bool.false_ne_true), if_pos h]
  exact first_key (hf h) hc
/-! A part put into another's place. -/
theorem get_head {T v : VT} {s : PStep} {r : List PStep} (h : getP T (s :: r) = some v) : ∃ i t, idxT T s = some i ∧ kidT T s i = some t ∧ getP t r = some v := by
  simp only [getP] at h
  cases h1 : idxT T s with
  | none => simp [h1] at h
  | some i =>
    cases h2 : kidT T s i with
    | none => simp [h1, h2] at h
    | some t => simp [h1, h2] at h; exact ⟨i, t, rfl, h2, h⟩
end Go.Proofs.YtadbeodeiijhdaaGreatDoor
namespace Go.Proofs.YtadbeodeiijhdaaGreatDoor
open Go.RowKit

theorem Tryz.infoRow : (Tryz.prog.info? 38).map (fun i => (i.zero, i.size, i.bytes)) = some (some (.slice none 0 0), 1, 24) := by kernel_rfl
/-- a path's cells, one behind the other -/
theorem inp_news {w : World} {p : List PStep} {a : Addr} {n c : Nat} (h : InP w p (.slice (some a) n c)) : ∀ (j : Nat) (u : Value), (p.flatMap sc)[j]? = some u → w.cell? (a.add j) = some u := by
  intro j u hu
  obtain ⟨b, ⟨o, cap, e, -, -, ho⟩, hc⟩ := h
  injection e with e1 e2 e3
  have hlen : (p.flatMap sc).length = p.length * 3 := by
    clear hu hc ho e2
    induction p with
    | nil => rfl
    | cons s p ih => rw [List.flatMap_cons, List.length_append, ih]; simp [sc]; omega
  have hj : j < p.length * 3 := by rw [← hlen]; exact lt_of_some hu
  have hi : j / 3 < p.length := by omega
  have hb := ho (by omega)
  rw [hb] at e1
  injection e1 with e1
  subst e1
  have hs : p[j / 3]? = some p[j / 3] := List.getElem?_eq_getElem hi
  obtain ⟨h0, h1, h2, -⟩ := hc (j / 3) _ hs
  have hf := flat_at sc 3 (fun _ => rfl) p (j / 3) (j % 3) _ hs (by omega)
  rw [show j / 3 * 3 + j % 3 = j by omega, hu] at hf
  have hadd : ∀ k, 0 < k → a.add k = ⟨a.block, a.off + k, none⟩ := fun k hk => by unfold Addr.add; rw [if_neg (by omega)]
  have hbo : (a.add (j / 3 * 3)).block = a.block ∧ (a.add (j / 3 * 3)).off = a.off + j / 3 * 3 := by unfold Addr.add; split <;> simp_all
  rcases (show j % 3 = 0 ∨ j % 3 = 1 ∨ j % 3 = 2 by omega) with e | e | e
  · rw [e] at hf
    injection hf with hf
    rw [show j = j / 3 * 3 by omega, hf]; exact h0
  · rw [e] at hf
    injection hf with hf
    rw [hadd j (by omega), hf]
    rw [hbo.1, hbo.2, show a.off + j / 3 * 3 + 1 = a.off + j by omega] at h1
    exact h1
  · rw [e] at hf
    injection hf with hf
    rw [hadd j (by omega), hf]
    rw [hbo.1, hbo.2, show a.off + j / 3 * 3 + 2 = a.off + j by omega] at h2
    exact h2
theorem fsc_len (p : List PStep) : (p.flatMap sc).length = p.length * 3 := by
  induction p with
  | nil => rfl
  | cons s p ih => rw [List.flatMap_cons, List.length_append, ih]; simp [sc]; omega
/-- paths gathered since a world -/
structure Got (W X : World) (l : Value) (E : List (List PStep × Value)) : Prop where
  row : X.ownsRow W.heap.size 38 1 l E.length (E.map (·.2))
  els : ∀ e ∈ E, X.ownsRow W.heap.size 75 3 e.2 e.1.length (e.1.flatMap sc)
  bel : Below W.heap.size W X
theorem Got.onto {W X Y : World} {l : Value} {E : List (List PStep × Value)} (h : Got W X l E) (hb : Below X.heap.size X Y) : Got W Y l E :=
  ⟨ownsRow_below h.row hb, fun e he => ownsRow_below (h.els e he) hb, vonto h.bel hb⟩
theorem own_apart {w : World} {B B' : Nat} {e e' : TypeId} {s s' n n' : Nat} {v v' : Value} {xs xs' : List Value} (h : w.ownsRow B e s v n xs) (k : w.ownsRow B' e' s' v' n' xs') (hne : e ≠ e') : v.ownBlock = none ∨ v.ownBlock ≠ v'.ownBlock := by
  rcases h.2 with ⟨rfl, -⟩ | ⟨g, cap, cur, rfl, -, hg, -⟩
  · exact .inl rfl
  · refine .inr fun hh => ?_
    rcases k.2 with ⟨rfl, -⟩ | ⟨g', cap', cur', rfl, -, hg', -⟩
    · cases hh
    · have : g = g' := by simpa [Value.ownBlock] using hh
      subst this
      rw [hg] at hg'
      injection hg' with h1
      injection h1 with _ h2
      exact hne h2
theorem Got.more {W X Y : World} {l l' : Value} {E E' : List (List PStep × Value)} (h : Got W X l E) (hE : ∀ e ∈ E', X.ownsRow W.heap.size 75 3 e.2 e.1.length (e.1.flatMap sc))
    (hr : Y.ownsRow W.heap.size 38 1 l' (E.length + E'.length) (E.map (·.2) ++ E'.map (·.2))) (hg : X.grownBy Y l.ownBlock) : Got W Y l' (E ++ E') := by
  refine ⟨by rw [List.length_append, List.map_append]; exact hr, fun e he => ?_, ?_⟩
  · rcases List.mem_append.1 he with he | he
    · exact (h.els e he).kept hg (own_apart (h.els e he) h.row (by decide))
    · exact (hE e he).kept hg (own_apart (hE e he) h.row (by decide))
  · exact h.bel.grown hg (by have := h.bel.size; omega) (fun q hq => (h.row.lt q hq).1)
theorem own_sl5 {w : World} {B : Nat} {e : TypeId} {k n : Nat} {v : Value} {xs : List Value} (h : w.ownsRow B e k v n xs) : ∃ o c, v = .slice o n c := by
  rcases h with ⟨-, ⟨rfl, rfl⟩ | ⟨g, cap, cur, rfl, -⟩⟩
  · exact ⟨none, 0, rfl⟩
  · exact ⟨_, _, rfl⟩
theorem sc_ones (p : List PStep) : ∀ u ∈ p.flatMap sc, u.oneCell' = true := by
  intro u hu
  obtain ⟨s, -, h⟩ := List.mem_flatMap.1 hu
  exact sc_one s u h
theorem step_app {P : Program} {ops : Array Oper} {o : Oper} {a : Act} {w : World} {K : Act → World → Prop} {Q : Exit → Act → World → Prop} {E : Prop} (hgd : o.guard = none) (s x : Operand) (t : TypeId)
    (ho : o.op = .call { callee := .builtin .append, args := #[s, x], argTypes := #[t, t] }) (vs vx : Value) (hs : a.eval s = vs) (hx : a.eval x = vx)
    (v' : Value) (w' : World) (hr : (Builtin.append_ #[t, t] o.type #[vs, vx]).run P w = .ok v' w') (h : K (a.put o.dst v') w') : if Region.wanted o (yielded ops a.tmps) = true then Oper.wp P o a w K Q else E := by
  rw [if_pos (by simp [Region.wanted, hgd])]
  exact Lib.wp_append_run w s x t t ho vs vx hs hx v' w' hr h
/-- a path copied onto a new row of nothing -/
theorem p5_copy (base : Nat) (X : World) (B : Nat) (p : List PStep) (op : Option Addr) (c : Nat) (ty : TypeId) (hown : X.ownsRow base 75 3 (.slice (some ⟨B, 0, none⟩) 0 0) 0 []) (hp : InP X p (.slice op p.length c)) (hb : base ≤ X.heap.size) (hl : p.length ≤ 100000) :
    ∃ u Y, (Builtin.append_ #[38, 38] ty #[.slice (some ⟨B, 0, none⟩) 0 0, .slice op p.length c]).run Tryz.prog X = .ok u Y ∧ Y.ownsRow base 75 3 u p.length (p.flatMap sc) ∧ (∀ W0 : World, W0.heap.size = base → Below base W0 X → Below base W0 Y) ∧ (∀ a : Addr, a.block < X.heap.size → a.block ≠ B → Y.cell? a = X.cell? a) ∧ X.heap.size ≤ Y.heap.size := by
  obtain ⟨i1, hi', hz0', hz1', hz2'⟩ := info_parts Tryz.infoStep
  rcases Nat.eq_zero_or_pos p.length with h0 | h0
  · have hp0 : p = [] := List.eq_nil_of_length_eq_zero h0
    subst hp0
    refine ⟨_, X, run_append_nothing (P := Tryz.prog) X 38 38 ty 75 i1 Tryz.underlying38 hi' _ 0 0 (Nat.le_refl _) _ ?_, hown, fun _ _ h => h, fun _ _ _ => rfl, Nat.le_refl _⟩
    cases op with
    | none => exact Src.ofNil X Tryz.underlying38 c
    | some a => exact Src.ofSlice X Tryz.underlying38 a 0 c [] (by simp) (fun j u h => by simp at h) (by simp)
  · have HPI := hp
    obtain ⟨a, ⟨o, cap, e, -, -, ho⟩, -⟩ := hp
    injection e with e1 e2 e3
    have := ho h0
    rw [this] at e1
    subst e1
    obtain ⟨g, cp, Y, hr, h2, h3, h4, h5⟩ := run_append_lies (P := Tryz.prog) X 38 ty base 75 i1 (.agg #[.string ⟨#[]⟩, .int .i64 0, .bool false]) 3 32 Tryz.underlying38 hi' hz0' hz1' hz2' rfl (by decide) _ 0 [] hown a p.length c (p.flatMap sc) (fsc_len p) (inp_news HPI) (sc_ones p) h0 (by unfold maxLen; omega) (by omega) hb X.heap.size rfl
    rw [Nat.zero_add] at hr h2
    exact ⟨_, Y, hr, by simpa using h2, fun W0 hW0 hB => by subst hW0; exact hB.grown h3 hb (fun q hq => (hown.lt q hq).1), fun ad h1 h6 => h3.cell_far ad h1 (by intro h7; injection h7 with h7; exact h6 h7), h3.size⟩
/-- all paths of a tree as the document gathers them, whatever its kind -/
def allA (T : VT) (p : List PStep) : List (List PStep) := p :: (allL T.ls 0 p ++ allM T.vs T.ks p)
end Go.Proofs.YtadbeodeiijhdaaGreatDoor
/- Plain mathematics of leaves: the parts of a tree that have no parts, with their paths. -/
namespace Go.Proofs.YtadbeodeiijhdaaGreatDoor

def lpl (i : Nat) : PStep := ⟨⟨#[]⟩, i, true⟩
def lky (c : ByteArray) : PStep := ⟨c, 0, false⟩
mutual
def lfT : VT → List PStep → List (List PStep × VT)
  | .mk k n s L K V, p => if k = 5 ∧ 0 < L.length then lfL L 0 p else if k = 6 ∧ 0 < V.length then lfM V K p else [(p, .mk k n s L K V)]
def lfL : List VT → Nat → List PStep → List (List PStep × VT)
  | [], _, _ => []
  | t :: r, i, p => lfT t (p ++ [lpl i]) ++ lfL r (i + 1) p
def lfM : List VT → List ByteArray → List PStep → List (List PStep × VT)
  | [], _, _ => []
  | t :: r, K, p => lfT t (p ++ [lky (K.headD ⟨#[]⟩)]) ++ lfM r K.tail p
end
theorem lfT_at (T : VT) (p : List PStep) : lfT T p = if T.kd = 5 ∧ 0 < T.ls.length then lfL T.ls 0 p else if T.kd = 6 ∧ 0 < T.vs.length then lfM T.vs T.ks p else [(p, T)] := by
  cases T with
  | mk k n s L K V => rw [lfT]; rfl
theorem lfL_snoc (t : VT) (p : List PStep) : ∀ (A : List VT) (i : Nat), lfL (A ++ [t]) i p = lfL A i p ++ lfT t (p ++ [lpl (i + A.length)])
  | [], i => by simp [lfL]
  | a :: A, i => by
    show lfT a _ ++ lfL (A ++ [t]) (i + 1) p = _
    rw [lfL_snoc t p A (i + 1)]
    show _ = (lfT a _ ++ lfL A (i + 1) p) ++ _
    rw [List.append_assoc, List.length_cons, show i + 1 + A.length = i + (A.length + 1) by omega]
theorem lfM_snoc (t : VT) (p : List PStep) : ∀ (A : List VT) (K : List ByteArray) (c : ByteArray), K[A.length]? = some c → lfM (A ++ [t]) K p = lfM A K p ++ lfT t (p ++ [lky c])
  | [], K, c, h => by
    cases K with
    | nil => simp at h
    | cons d K => simp at h; subst h; simp [lfM]
  | a :: A, K, c, h => by
    show lfT a _ ++ lfM (A ++ [t]) K.tail p = _
    rw [lfM_snoc t p A K.tail c (by cases K with | nil => simp at h | cons d K => simpa using h)]
    show _ = (lfT a _ ++ lfM A K.tail p) ++ _
    rw [List.append_assoc]
mutual
theorem lfT_len : ∀ (T : VT) (p : List PStep), (lfT T p).length ≤ szT T
  | .mk k _ _ L K V, p => by
    have h1 := lfL_len L 0 p
    have h2 := lfM_len V K p
    simp only [lfT, szT]
    split
    · omega
    · split
      · omega
      · simp only [List.length_cons, List.length_nil]; omega
theorem lfL_len : ∀ (L : List VT) (i : Nat) (p : List PStep), (lfL L i p).length ≤ szL L
  | [], _, _ => Nat.zero_le _
  | t :: r, i, p => by
    have h1 := lfT_len t (p ++ [lpl i])
    have h2 := lfL_len r (i + 1) p
    simp only [lfL, szL, List.length_append]; omega
theorem lfM_len : ∀ (V : List VT) (K : List ByteArray) (p : List PStep), (lfM V K p).length ≤ szL V
  | [], _, _ => Nat.zero_le _
  | t :: r, K, p => by
    have h1 := lfT_len t (p ++ [lky (K.headD ⟨#[]⟩)])
    have h2 := lfM_len r K.tail p
    simp only [lfM, szL, List.length_append]; omega
end
theorem ndc_len {T : VT} (h : nodeB T = true) : (T.kd = 5 ∨ T.ls = []) ∧ (T.kd = 6 ∨ T.vs = []) := by
  cases T with
  | mk k n s L K V =>
  show (k = 5 ∨ L = []) ∧ (k = 6 ∨ V = [])
  change nodeC k n (n == 0) s.toList.isEmpty ((L.length : Int) == 0) ((V.length : Int) == 0) (numB s.data.toList && !intB s.data.toList) (teI s == 0) (stampB s) (keysB K) = true at h
  unfold nodeC at h
  by_cases h5 : k = 5
  · refine ⟨Or.inl h5, Or.inr ?_⟩
    subst h5
    rw [if_neg (by decide), if_neg (by decide), if_neg (by decide), if_neg (by decide), if_neg (by decide), if_neg (by decide), if_pos rfl] at h
    simp only [Bool.and_eq_true, beq_iff_eq] at h
    exact List.eq_nil_of_length_eq_zero (by omega)
  · by_cases h6 : k = 6
    · refine ⟨Or.inr ?_, Or.inl h6⟩
      subst h6
      rw [if_neg (by decide), if_neg (by decide), if_neg (by decide), if_neg (by decide), if_neg (by decide), if_neg (by decide), if_neg (by decide), if_pos rfl] at h
      simp only [Bool.and_eq_true, beq_iff_eq] at h
      exact List.eq_nil_of_length_eq_zero (by omega)
    · have key : ((L.length : Int) == 0) = true ∧ ((V.length : Int) == 0) = true := by
        rw [if_neg h5, if_neg h6] at h
        repeat' (split at h)
        all_goals first
          | (simp only [Bool.and_eq_true] at h; exact ⟨h.1.2, h.2⟩)
          | (cases h)
      rw [beq_iff_eq, beq_iff_eq] at key
      exact ⟨Or.inr (List.eq_nil_of_length_eq_zero (by omega)), Or.inr (List.eq_nil_of_length_eq_zero (by omega))⟩
theorem leaf_bare {T : VT} (h : plainT T = true) (h1 : ¬ (T.kd = 5 ∧ 0 < T.ls.length)) (h2 : ¬ (T.kd = 6 ∧ 0 < T.vs.length)) : T.ls = [] ∧ T.vs = [] := by
  rw [plainT_eq] at h
  simp only [Bool.and_eq_true] at h
  obtain ⟨a, b⟩ := ndc_len h.1.1
  refine ⟨?_, ?_⟩
  · rcases a with a | a
    · exact List.eq_nil_of_length_eq_zero (by omega)
    · exact a
  · rcases b with b | b
    · exact List.eq_nil_of_length_eq_zero (by omega)
    · exact b
end Go.Proofs.YtadbeodeiijhdaaGreatDoor
