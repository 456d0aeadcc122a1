/- The document's side: all paths of a tree. -/
import Derived.Test.YtjffhjdjoankcaaGreatDoorMathOthers
import Derived.Test.YtjffhjdjoankcaaGreatDoorPathDoc
import Derived.Test.YtjffhjdjoankcaaGreatDoorVPlain
import Derived.Deep.Onto
import Derived.Deep.Upon
import Derived.Lib.AppendZeros
import Derived.Deep.AppendLies
namespace Go.Proofs.YtjffhjdjoankcaaGreatDoor
open Go.RowKit

theorem Tryz.infoRow : (Tryz.prog.info? 41).map (fun i => (i.zero, i.size, i.bytes)) = some (some (.slice none 0 0), 1, 24) := by kernel_rfl
/-- a path's cells, one behind the other -/
theorem inp_news {w : World} {p : List PStep} {a : Addr} {n c : Nat} (h : InP w p (.slice (some a) n c)) : ∀ (j : Nat) (u : Value), (p.flatMap sc)[j]? = some u → w.cell? (a.add j) = some u := by
  intro j u hu
  obtain ⟨b, ⟨o, cap, e, -, -, ho⟩, hc⟩ := h
  injection e with e1 e2 e3
  have hlen : (p.flatMap sc).length = p.length * 3 := by
    clear hu hc ho e2
    induction p with
    | nil => rfl
    | cons s p ih => rw [List.flatMap_cons, List.length_append, ih]; simp [sc]; omega
  have hj : j < p.length * 3 := by rw [← hlen]; exact lt_of_some hu
  have hi : j / 3 < p.length := by omega
  have hb := ho (by omega)
  rw [hb] at e1
  injection e1 with e1
  subst e1
  have hs : p[j / 3]? = some p[j / 3] := List.getElem?_eq_getElem hi
  obtain ⟨h0, h1, h2, -⟩ := hc (j / 3) _ hs
  have hf := flat_at sc 3 (fun _ => rfl) p (j / 3) (j % 3) _ hs (by omega)
  rw [show j / 3 * 3 + j % 3 = j by omega, hu] at hf
  have hadd : ∀ k, 0 < k → a.add k = ⟨a.block, a.off + k, none⟩ := fun k hk => by unfold Addr.add; rw [if_neg (by omega)]
  have hbo : (a.add (j / 3 * 3)).block = a.block ∧ (a.add (j / 3 * 3)).off = a.off + j / 3 * 3 := by unfold Addr.add; split <;> simp_all
  rcases (show j % 3 = 0 ∨ j % 3 = 1 ∨ j % 3 = 2 by omega) with e | e | e
  · rw [e] at hf
    injection hf with hf
    rw [show j = j / 3 * 3 by omega, hf]; exact h0
  · rw [e] at hf
    injection hf with hf
    rw [hadd j (by omega), hf]
    rw [hbo.1, hbo.2, show a.off + j / 3 * 3 + 1 = a.off + j by omega] at h1
    exact h1
  · rw [e] at hf
    injection hf with hf
    rw [hadd j (by omega), hf]
    rw [hbo.1, hbo.2, show a.off + j / 3 * 3 + 2 = a.off + j by omega] at h2
    exact h2
theorem fsc_len (p : List PStep) : (p.flatMap sc).length = p.length * 3 := by
  induction p with
  | nil => rfl
  | cons s p ih => rw [List.flatMap_cons, List.length_append, ih]; simp [sc]; omega
/-- paths gathered since a world -/
structure Got (W X : World) (l : Value) (E : List (List PStep × Value)) : Prop where
  row : X.ownsRow W.heap.size 41 1 l E.length (E.map (·.2))
  els : ∀ e ∈ E, X.ownsRow W.heap.size 79 3 e.2 e.1.length (e.1.flatMap sc)
  bel : Below W.heap.size W X
theorem Got.onto {W X Y : World} {l : Value} {E : List (List PStep × Value)} (h : Got W X l E) (hb : Below X.heap.size X Y) : Got W Y l E :=
  ⟨ownsRow_below h.row hb, fun e he => ownsRow_below (h.els e he) hb, vonto h.bel hb⟩
theorem own_apart {w : World} {B B' : Nat} {e e' : TypeId} {s s' n n' : Nat} {v v' : Value} {xs xs' : List Value} (h : w.ownsRow B e s v n xs) (k : w.ownsRow B' e' s' v' n' xs') (hne : e ≠ e') : v.ownBlock = none ∨ v.ownBlock ≠ v'.ownBlock := by
  rcases h.2 with ⟨rfl, -⟩ | ⟨g, cap, cur, rfl, -, hg, -⟩
  · exact .inl rfl
  · refine .inr fun hh => ?_
    rcases k.2 with ⟨rfl, -⟩ | ⟨g', cap', cur', rfl, -, hg', -⟩
    · cases hh
    · have : g = g' := by simpa [Value.ownBlock] using hh
      subst this
      rw [hg] at hg'
      injection hg' with h1
      injection h1 with _ h2
      exact hne h2
theorem Got.more {W X Y : World} {l l' : Value} {E E' : List (List PStep × Value)} (h : Got W X l E) (hE : ∀ e ∈ E', X.ownsRow W.heap.size 79 3 e.2 e.1.length (e.1.flatMap sc))
    (hr : Y.ownsRow W.heap.size 41 1 l' (E.length + E'.length) (E.map (·.2) ++ E'.map (·.2))) (hg : X.grownBy Y l.ownBlock) : Got W Y l' (E ++ E') := by
  refine ⟨by rw [List.length_append, List.map_append]; exact hr, fun e he => ?_, ?_⟩
  · rcases List.mem_append.1 he with he | he
    · exact (h.els e he).kept hg (own_apart (h.els e he) h.row (by decide))
    · exact (hE e he).kept hg (own_apart (hE e he) h.row (by decide))
  · exact h.bel.grown hg (by have := h.bel.size; omega) (fun q hq => (h.row.lt q hq).1)
theorem own_at5 {w : World} {B : Nat} {ty : TypeId} {v : Value} {n : Nat} {xs : List Value} (h : w.ownsRow B ty 1 v n xs) (hn : 0 < n) : ∃ g c, v = .slice (some ⟨g, 0, none⟩) n c ∧ n ≤ c ∧ c ≤ maxLen ∧ True := by
  rcases h with ⟨-, ⟨rfl, h0⟩ | ⟨g, cap, cur, rfl, -, -, hn, hcm, -, -⟩⟩
  · omega
  · exact ⟨g, cap, rfl, hn, hcm, trivial⟩
theorem ones_of {w : World} {B : Nat} {ty : TypeId} {E : List (List PStep × Value)} (h : ∀ e ∈ E, w.ownsRow B ty 3 e.2 e.1.length (e.1.flatMap sc)) : ∀ u ∈ E.map (·.2), u.oneCell' = true := by
  intro u hu
  obtain ⟨e, he, rfl⟩ := List.mem_map.1 hu
  rcases h e he with ⟨-, ⟨h1, -⟩ | ⟨g, cap, cur, h1, -⟩⟩ <;> rw [h1] <;> rfl
theorem own_sl5 {w : World} {B : Nat} {e : TypeId} {k n : Nat} {v : Value} {xs : List Value} (h : w.ownsRow B e k v n xs) : ∃ o c, v = .slice o n c := by
  rcases h with ⟨-, ⟨rfl, rfl⟩ | ⟨g, cap, cur, rfl, -⟩⟩
  · exact ⟨none, 0, rfl⟩
  · exact ⟨_, _, rfl⟩
theorem sc_ones (p : List PStep) : ∀ u ∈ p.flatMap sc, u.oneCell' = true := by
  intro u hu
  obtain ⟨s, -, h⟩ := List.mem_flatMap.1 hu
  exact sc_one s u h
theorem step_app {P : Program} {ops : Array Oper} {o : Oper} {a : Act} {w : World} {K : Act → World → Prop} {Q : Exit → Act → World → Prop} {E : Prop} (hgd : o.guard = none) (s x : Operand) (t : TypeId)
    (ho : o.op = .call { callee := .builtin .append, args := #[s, x], argTypes := #[t, t] }) (vs vx : Value) (hs : a.eval s = vs) (hx : a.eval x = vx)
    (v' : Value) (w' : World) (hr : (Builtin.append_ #[t, t] o.type #[vs, vx]).run P w = .ok v' w') (h : K (a.put o.dst v') w') : if Region.wanted o (yielded ops a.tmps) = true then Oper.wp P o a w K Q else E := by
  rw [if_pos (by simp [Region.wanted, hgd])]
  exact Lib.wp_append_run w s x t t ho vs vx hs hx v' w' hr h
/-- a path copied onto a new row of nothing -/
theorem p5_copy (base : Nat) (X : World) (B : Nat) (p : List PStep) (op : Option Addr) (c : Nat) (ty : TypeId) (hown : X.ownsRow base 79 3 (.slice (some ⟨B, 0, none⟩) 0 0) 0 []) (hp : InP X p (.slice op p.length c)) (hb : base ≤ X.heap.size) (hl : p.length ≤ 100000) :
    ∃ u Y, (Builtin.append_ #[41, 41] ty #[.slice (some ⟨B, 0, none⟩) 0 0, .slice op p.length c]).run Tryz.prog X = .ok u Y ∧ Y.ownsRow base 79 3 u p.length (p.flatMap sc) ∧ (∀ W0 : World, W0.heap.size = base → Below base W0 X → Below base W0 Y) ∧ (∀ a : Addr, a.block < X.heap.size → a.block ≠ B → Y.cell? a = X.cell? a) ∧ X.heap.size ≤ Y.heap.size := by
  obtain ⟨i1, hi', hz0', hz1', hz2'⟩ := info_parts Tryz.infoStep
  rcases Nat.eq_zero_or_pos p.length with h0 | h0
  · have hp0 : p = [] := List.eq_nil_of_length_eq_zero h0
    subst hp0
    refine ⟨_, X, run_append_nothing (P := Tryz.prog) X 41 41 ty 79 i1 Tryz.underlying41 hi' _ 0 0 (Nat.le_refl _) _ ?_, hown, fun _ _ h => h, fun _ _ _ => rfl, Nat.le_refl _⟩
    cases op with
    | none => exact Src.ofNil X Tryz.underlying41 c
    | some a => exact Src.ofSlice X Tryz.underlying41 a 0 c [] (by simp) (fun j u h => by simp at h) (by simp)
  · have HPI := hp
    obtain ⟨a, ⟨o, cap, e, -, -, ho⟩, -⟩ := hp
    injection e with e1 e2 e3
    have := ho h0
    rw [this] at e1
    subst e1
    obtain ⟨g, cp, Y, hr, h2, h3, h4, h5⟩ := run_append_lies (P := Tryz.prog) X 41 ty base 79 i1 (.agg #[.string ⟨#[]⟩, .int .i64 0, .bool false]) 3 32 Tryz.underlying41 hi' hz0' hz1' hz2' rfl (by decide) _ 0 [] hown a p.length c (p.flatMap sc) (fsc_len p) (inp_news HPI) (sc_ones p) h0 (by unfold maxLen; omega) (by omega) hb X.heap.size rfl
    rw [Nat.zero_add] at hr h2
    exact ⟨_, Y, hr, by simpa using h2, fun W0 hW0 hB => by subst hW0; exact hB.grown h3 hb (fun q hq => (hown.lt q hq).1), fun ad h1 h6 => h3.cell_far ad h1 (by intro h7; injection h7 with h7; exact h6 h7), h3.size⟩
/-- all paths of a tree as the document gathers them, whatever its kind -/
def allA (T : VT) (p : List PStep) : List (List PStep) := p :: (allL T.ls 0 p ++ allM T.vs T.ks p)
theorem allA_eq {T : VT} (h : plainT T = true) (p : List PStep) : allA T p = allT T p := by
  rw [allT_eq]
  unfold allA
  congr 1
  rw [plainT_eq, Bool.and_eq_true, Bool.and_eq_true] at h
  have hn := h.1.1
  have e0 : ∀ {X : VT}, ((X.ls.length : Int) == 0) = true → X.ls = [] := fun {X} h => List.eq_nil_of_length_eq_zero (by have := of_decide_eq_true h; simpa using this)
  have e1 : ∀ {X : VT}, ((X.vs.length : Int) == 0) = true → X.vs = [] := fun {X} h => List.eq_nil_of_length_eq_zero (by have := of_decide_eq_true h; simpa using this)
  unfold nodeB nodeC at hn
  by_cases h5 : T.kd = 5
  · rw [if_pos h5]
    simp only [h5, show ¬ (5 : Int) = 0 by decide, show ¬ (5 : Int) = 1 by decide, show ¬ (5 : Int) = 2 by decide, show ¬ (5 : Int) = 3 by decide, show ¬ (5 : Int) = 4 by decide, show ¬ (5 : Int) = 7 by decide, if_false, if_true, Bool.and_eq_true] at hn
    rw [e1 hn.2]; simp [allM]
  · rw [if_neg h5]
    by_cases h6 : T.kd = 6
    · rw [if_pos h6]
      simp only [h6, show ¬ (6 : Int) = 0 by decide, show ¬ (6 : Int) = 1 by decide, show ¬ (6 : Int) = 2 by decide, show ¬ (6 : Int) = 3 by decide, show ¬ (6 : Int) = 4 by decide, show ¬ (6 : Int) = 7 by decide, show ¬ (6 : Int) = 5 by decide, if_false, if_true, Bool.and_eq_true] at hn
      rw [e0 hn.1.2]; simp [allL]
    · rw [if_neg h6]
      have hb : ((T.ls.length : Int) == 0) = true ∧ ((T.vs.length : Int) == 0) = true := by
        split at hn
        · simp only [Bool.and_eq_true] at hn; exact ⟨hn.1.2, hn.2⟩
        · split at hn
          · simp only [Bool.and_eq_true] at hn; exact ⟨hn.1.2, hn.2⟩
          · split at hn
            · simp only [Bool.and_eq_true] at hn; exact ⟨hn.1.2, hn.2⟩
            · split at hn
              · simp only [Bool.and_eq_true] at hn; exact ⟨hn.1.2, hn.2⟩
              · split at hn
                · simp only [Bool.and_eq_true] at hn; exact ⟨hn.1.2, hn.2⟩
                · split at hn
                  · simp only [Bool.and_eq_true] at hn; exact ⟨hn.1.2, hn.2⟩
                  · simp at hn
      rw [e0 hb.1, e1 hb.2]; simp [allL, allM]
theorem allT_ne (T : VT) (p : List PStep) : 0 < (allT T p).length := by rw [allT_eq]; simp
set_option maxRecDepth 100000 in
set_option maxHeartbeats 8000000 in
theorem all5_any : ∀ (N : Nat) (T : VT) (x y : Value) (p : List PStep) (v : Value) (w : World), szT T ≤ N → plainT T = true → HV w T x y → InP w p v → p.length + szT T ≤ 100000 →
    Calls Tryz.prog 32 #[vv T x y, v] w fun e w' => ∃ u E, e = .returned u ∧ Got w w' u E ∧ E.map (·.1) = allT T p := by
  intro N
  induction N with
  | zero => intro T x y p v w hN; have := szT_pos T; omega
  | succ N ih =>
  intro T x y p v w hN hpl hT hp hsz
  have HP := hid hp
  have HT := hid hT
  have HIH := hid ih
  have HPL := hid hpl
  obtain ⟨a, ⟨op, cp, rfl, hp1, hp2, hp3⟩, hpc⟩ := hp
  have HPC := hid hpc
  unfold maxLen at hp2
  obtain ⟨o1, n1, c1, o2, n2, c2, rfl, rfl⟩ := hv_slices hT
  obtain ⟨i1, hi', hz0', hz1', hz2'⟩ := info_parts Tryz.infoStep
  obtain ⟨i2, hj', hy0', hy1', hy2'⟩ := info_parts Tryz.infoRow
  clear ih hT hpc hpl
  simp only [vv]
  have HKEY := hid (fun s hs => by obtain ⟨i, hi⟩ := List.getElem?_of_mem hs; exact (HPC.out i s hi).2.2.2 : ∀ s ∈ p, s.key.size ≤ maxLen)
  have b0 := bx_new HT.out 31
  have hal := valloc_bel (Below.refl w.heap.size w) (.cells #[.int .i64 T.kd, .int .i64 T.nm, .string T.st, .slice o1 n1 c1, .slice o2 n2 c2] 31)
  have hz := World.size_alloc w (.cells #[.int .i64 T.kd, .int .i64 T.nm, .string T.st, .slice o1 n1 c1, .slice o2 n2 c2] 31)
  have HP1 := hid (HP.out.onto hal)
  go_enter Tryz.func32, Tryz.ntmps32
  obtain ⟨u0, Y0, hr0, hown0, hbl0, -, hsz0⟩ := p5_copy (w.heap.size + 1) ((w.alloc (.cells #[.int .i64 T.kd, .int .i64 T.nm, .string T.st, .slice o1 n1 c1, .slice o2 n2 c2] 31)).alloc (.cells #[] 79)) (w.heap.size + 1) p op cp 41
    (by have := World.ownsRow_lit (base := w.heap.size + 1) (e := 79) (size := 3) (w.alloc (.cells #[.int .i64 T.kd, .int .i64 T.nm, .string T.st, .slice o1 n1 c1, .slice o2 n2 c2] 31)) #[] 0 (by simp) (by decide) rfl; simpa using this) (HP1.out.onto (valloc_bel (Below.refl _ _) _)) (by simp) (by omega)
  obtain ⟨ou, cu, rfl⟩ := own_sl5 hown0
  go_wp2_with (at_builtin; go_must (refine Lib.wpList_append_run _ rfl _ _ _ _ rfl _ _ rfl rfl _ Y0 hr0 ?_))
  obtain ⟨W1, hW1⟩ : ∃ W1, W1 = w.alloc (.cells #[.int .i64 T.kd, .int .i64 T.nm, .string T.st, .slice o1 n1 c1, .slice o2 n2 c2] 31) := ⟨_, rfl⟩
  rw [← hW1] at b0 hal hz HP1 hbl0 hr0 hsz0
  have hgot : Got W1 (Y0.alloc (.cells #[.slice ou p.length cu] 41)) (.slice (some ⟨Y0.heap.size, 0, none⟩) 1 1) [(p, .slice ou p.length cu)] := by
    have hY0 : Below W1.heap.size W1 Y0 := by rw [hz]; exact hbl0 W1 hz (by rw [← hz]; exact valloc_bel (Below.refl _ _) _)
    refine ⟨?_, fun e he => ?_, valloc_bel hY0 _⟩
    · have := World.ownsRow_lit (base := W1.heap.size) (e := 41) (size := 1) Y0 #[.slice ou p.length cu] 1 hY0.size (by decide) rfl
      simpa using this
    · rw [List.mem_singleton.1 he, hz]; exact hown0.alloc _
  have GT0 := hid hgot
  have BX := hid b0
  have HAL := hid hal
  have HVW := hid (HT.out.onto hal)
  obtain ⟨aL, bM, f, g, pp, qq, oL, oM, cL, cM, ex, ey, hL63, hM63, hoL, hoM, hK, -, hLc, hMc, cLn, cKn, cMn, rL, rM, -, -⟩ := HVW.out.parts
  injection ex with ex1 ex2 ex3
  injection ey with ey1 ey2 ey3
  subst ex1 ex2 ex3 ey1 ey2 ey3
  have hk3 := BX.out.cells.2.2.2.1
  have hk4 := BX.out.cells.2.2.2.2
  have CLN := hid cLn
  have CKN := hid cKn
  have CMN := hid cMn
  have RL := hid rL
  have RM := hid rM
  clear hgot b0 hal hW1 hr0 hown0 hbl0 hsz0 cLn cKn cMn rL rM HPC hp3
  go_loopw [5, 6] (fun l i wr => ∃ (j : Nat) (E : List (List PStep × Value)), i = .int .i64 j ∧ j ≤ T.ls.length ∧ Hid (Got W1 wr l E) ∧ Hid (E.map (·.1) = p :: allL (T.ls.take j) 0 p)) (fun _ i _ => T.ls.length - (intOf i).toNat)
  case atStart => exact ⟨0, _, rfl, Nat.zero_le _, GT0, hid (by simp [allL])⟩
  case round =>
    clear GT0
    obtain ⟨j, E, rfl, hj, GT, HM⟩ := hrel
    obtain ⟨ol, cl, rfl⟩ := own_sl5 GT.out.row
    have hEL : E.length ≤ 100000 := by
      have := congrArg List.length HM.out
      rw [List.length_map, List.length_cons] at this
      have h1 := allL_len (T.ls.take j) 0 p
      have h2 := szL_take_le T.ls j
      have h3 := sz_both T
      omega
    have k3 := keepCell GT.out.bel hk3
    by_cases hlt : j < T.ls.length
    · obtain ⟨t, ht⟩ : ∃ t, T.ls[j]? = some t := ⟨T.ls[j], List.getElem?_eq_getElem hlt⟩
      obtain rfl := hoL (by omega)
      obtain ⟨e0', e1', e2', e3', e4'⟩ := CLN.out j t ht
      have HVT := hid (RL.out j t ht)
      obtain ⟨q1, m1, d1, q2, m2, d2, hf1, hg1⟩ := hv_slices HVT.out
      rw [hf1] at e3' HVT
      rw [hg1] at e4' HVT
      have hpt := plain_ls HPL.out ht
      have hst := szT_ls T j t ht
      have IPW := hid (HP1.out.onto GT.out.bel)
      clear k3
      have e0 := e0'; have e1 := e1'; have e2 := e2'; have e3 := e3'; have e4 := e4'; have k3 := hk3
      have z3 := keepCell GT.out.bel hk3
      go_wp2_with fail
      refine wp_region_h (S := fun X => Below W1.heap.size W1 X) 16 (by kernel_rfl) (by kernel_rfl) ?_
      have hS0 : Below W1.heap.size W1 wr.drew := GT.out.bel.drew
      refine take_h (i := 0) (v := ?_) rfl (by kernel_rfl) (by kernel_rfl) (by kernel_rfl) (fun _ _ _ h => h) (by rfl) ?_ hS0 ?_
      rotate_left
      · (intro X hX; have y0 := keepCell hX k3; have y1 := keepCell hX e0; have y2 := keepCell hX e1; have y3 := keepCell hX e2; have y4 := keepCell hX e3; have y5 := keepCell hX e4; go_simp; try with_reducible rfl)
      simp only [Act.put, List.setIfInBounds_toArray, List.set_cons_zero, List.set_cons_succ]
      refine take_h (i := 1) (v := ?_) rfl (by kernel_rfl) (by kernel_rfl) (by kernel_rfl) (fun _ _ _ h => h) (by rfl) ?_ hS0 ?_
      rotate_left
      · (intro X hX; have y0 := keepCell hX k3; have y1 := keepCell hX e0; have y2 := keepCell hX e1; have y3 := keepCell hX e2; have y4 := keepCell hX e3; have y5 := keepCell hX e4; go_simp; try with_reducible rfl)
      simp only [Act.put, List.setIfInBounds_toArray, List.set_cons_zero, List.set_cons_succ]
      refine take_h (i := 2) (v := ?_) rfl (by kernel_rfl) (by kernel_rfl) (by kernel_rfl) (fun _ _ _ h => h) (by rfl) ?_ hS0 ?_
      rotate_left
      · (intro X hX; have y0 := keepCell hX k3; have y1 := keepCell hX e0; have y2 := keepCell hX e1; have y3 := keepCell hX e2; have y4 := keepCell hX e3; have y5 := keepCell hX e4; go_simp; try with_reducible rfl)
      simp only [Act.put, List.setIfInBounds_toArray, List.set_cons_zero, List.set_cons_succ]
      refine take_h (i := 3) (v := ?_) rfl (by kernel_rfl) (by kernel_rfl) (by kernel_rfl) (fun _ _ _ h => h) (by rfl) ?_ hS0 ?_
      rotate_left
      · (intro X hX; have y0 := keepCell hX k3; have y1 := keepCell hX e0; have y2 := keepCell hX e1; have y3 := keepCell hX e2; have y4 := keepCell hX e3; have y5 := keepCell hX e4; go_simp; try with_reducible rfl)
      simp only [Act.put, List.setIfInBounds_toArray, List.set_cons_zero, List.set_cons_succ]
      refine take_h (i := 4) (v := ?_) rfl (by kernel_rfl) (by kernel_rfl) (by kernel_rfl) (fun _ _ _ h => h) (by rfl) ?_ hS0 ?_
      rotate_left
      · (intro X hX; have y0 := keepCell hX k3; have y1 := keepCell hX e0; have y2 := keepCell hX e1; have y3 := keepCell hX e2; have y4 := keepCell hX e3; have y5 := keepCell hX e4; go_simp; try with_reducible rfl)
      simp only [Act.put, List.setIfInBounds_toArray, List.set_cons_zero, List.set_cons_succ]
      refine take_h (i := 5) (v := ?_) rfl (by kernel_rfl) (by kernel_rfl) (by kernel_rfl) (fun _ _ _ h => h) (by rfl) ?_ hS0 ?_
      rotate_left
      · (intro X hX; have y0 := keepCell hX k3; have y1 := keepCell hX e0; have y2 := keepCell hX e1; have y3 := keepCell hX e2; have y4 := keepCell hX e3; have y5 := keepCell hX e4; go_simp; try with_reducible rfl)
      simp only [Act.put, List.setIfInBounds_toArray, List.set_cons_zero, List.set_cons_succ]
      refine take_h (i := 7) (v := ?_) rfl (by kernel_rfl) (by kernel_rfl) (by kernel_rfl) (fun _ _ _ h => h) (by rfl) ?_ hS0 ?_
      rotate_left
      · (intro X hX; have y0 := keepCell hX k3; have y1 := keepCell hX e0; have y2 := keepCell hX e1; have y3 := keepCell hX e2; have y4 := keepCell hX e3; have y5 := keepCell hX e4; go_simp; try with_reducible rfl)
      simp only [Act.put, List.setIfInBounds_toArray, List.set_cons_zero, List.set_cons_succ]
      refine take_h (i := 9) (v := ?_) rfl (by kernel_rfl) (by kernel_rfl) (by kernel_rfl) (fun _ _ _ h => h) (by rfl) ?_ hS0 ?_
      rotate_left
      · (intro X hX; have y0 := keepCell hX k3; have y1 := keepCell hX e0; have y2 := keepCell hX e1; have y3 := keepCell hX e2; have y4 := keepCell hX e3; have y5 := keepCell hX e4; go_simp; try with_reducible rfl)
      simp only [Act.put, List.setIfInBounds_toArray, List.set_cons_zero, List.set_cons_succ]
      refine take_h (i := 10) (v := ?_) rfl (by kernel_rfl) (by kernel_rfl) (by kernel_rfl) (fun _ _ _ h => h) (by rfl) ?_ hS0 ?_
      rotate_left
      · (intro X hX; have y0 := keepCell hX k3; have y1 := keepCell hX e0; have y2 := keepCell hX e1; have y3 := keepCell hX e2; have y4 := keepCell hX e3; have y5 := keepCell hX e4; go_simp; try with_reducible rfl)
      simp only [Act.put, List.setIfInBounds_toArray, List.set_cons_zero, List.set_cons_succ]
      refine wpAnyH_ready (rs := [6, 11]) (by kernel_rfl) (by simp) ?_
      refine AllReadyH.cons rfl (fun KK hKK => ?_) (AllReadyH.cons rfl (fun KK hKK => ?_) AllReadyH.nil)
      · go_simp
        have hX : Below wr.heap.size wr (wr.alloc (.cells #[] 79)).drew := (valloc_bel (Below.refl _ _) _).drew
        refine hKK.out _ _ (vonto GT.out.bel hX) (fun _ => ?_)
        clear hKK KK
        refine wpAnyH_ready (rs := [8, 11]) (by kernel_rfl) (by simp) ?_
        refine AllReadyH.cons rfl (fun KK hKK => ?_) (AllReadyH.cons rfl (fun KK hKK => ?_) AllReadyH.nil)
        · obtain ⟨u7, Y8, hr8, h27, hbl8, hfar8, hsz8⟩ := p5_copy wr.heap.size (wr.alloc (.cells #[] 79)).drew wr.heap.size p op cp 41 (World.ownsRow.drew (by have := World.ownsRow_lit (base := wr.heap.size) (e := 79) (size := 3) wr #[] 0 (Nat.le_refl _) (by decide) rfl; simpa using this : (wr.alloc (.cells #[] 79)).ownsRow wr.heap.size 79 3 (.slice (some ⟨wr.heap.size, 0, none⟩) 0 0) 0 [])) (IPW.out.onto hX) (by have := hX.size; omega) (by omega)
          have hY : Below wr.heap.size wr Y8 := hbl8 wr rfl hX
          obtain ⟨ou7, cu7, rfl⟩ := own_sl5 h27
          refine step_app (by rfl) _ _ _ (by rfl) _ _ (by rfl) (by rfl) _ Y8 hr8 ?_
          refine hKK.out _ _ (vonto GT.out.bel hY) (fun _ => ?_)
          clear hKK KK hr8
          simp only [Act.put, List.setIfInBounds_toArray]
          have hXX := vonto hY (valloc_bel (Below.refl Y8.heap.size Y8) (.cells #[.string ⟨#[]⟩, .int .i64 (j : Int), .bool true] 79))
          refine step_h (i := 11) rfl (by kernel_rfl) ?_
          intro KK hKK
          go_simp
          refine hKK.out _ _ (vonto GT.out.bel hXX) (fun _ => ?_)
          clear hKK KK
          have n30 := new_cells Y8 (sc (plS j)) 79
          have g27a := h27.alloc (.cells #[.string ⟨#[]⟩, .int .i64 (j : Int), .bool true] 79)
          refine step_h (i := 12) rfl (by kernel_rfl) ?_
          intro KK hKK
          refine step_append_lies _ (by rfl) _ _ _ (by rfl) wr.heap.size 79 i1 (.agg #[.string ⟨#[]⟩, .int .i64 0, .bool false]) 3 32 Tryz.underlying41 hi' hz0' hz1' hz2' rfl (by decide) _ p.length _ (by rfl) g27a ⟨Y8.heap.size, 0, none⟩ 1 1 (sc (plS j)) (by rfl) rfl n30 (sc_one _) (by decide) (by unfold maxLen; omega) (by omega) (by have := (hXX).size; omega) (Y8.alloc (.cells #[.string ⟨#[]⟩, .int .i64 (j : Int), .bool true] 79)).heap.size rfl ?_
          intro g9 cap9 w9 hown9 hgr9 hat9 hlt9
          have hb9 : Below wr.heap.size wr w9 := (hXX).grown hgr9 (by have := (hXX).size; omega) (fun q hq => (World.ownsRow.lt g27a q hq).1)
          have own9 : w9.ownsRow wr.heap.size 79 3 (.slice (some ⟨g9, 0, none⟩) (p.length + 1) cap9) (p ++ [(plS j)]).length ((p ++ [(plS j)]).flatMap sc) := by rw [List.flatMap_append, List.length_append]; simpa using hown9
          have IN9 := hid (own_inp own9 (fun s hs => (List.mem_append.1 hs).elim (fun h => HKEY.out s h) (fun h => by rw [List.mem_singleton.1 h]; exact Nat.zero_le _)))
          have HB9 := hid hb9
          refine hKK.out _ _ (vonto GT.out.bel hb9) (fun _ => ?_)
          clear hKK KK hown9 hgr9 hat9 own9
          refine step_h (i := 13) rfl (by kernel_rfl) ?_
          intro KK hKK
          go_simp
          have CA := hid (HIH.out t _ _ (p ++ [(plS j)]) _ w9 (by omega) hpt (HVT.out.onto (vonto GT.out.bel HB9.out)) IN9.out (by rw [List.length_append, List.length_singleton]; omega))
          simp only [vv] at CA
          go_wp2_with (go_at_call 32; go_must (refine CA.out.mono ?_; rintro e wz ⟨ur, E', rfl, got', hmap'⟩))
          have hbz := vonto HB9.out got'.bel
          have hE0 : 0 < E'.length := by have := congrArg List.length hmap'; rw [List.length_map] at this; rw [this]; exact allT_ne _ _
          have hEl : E'.length ≤ 100000 := by have := congrArg List.length hmap'; rw [List.length_map] at this; rw [this]; have := allT_len t (p ++ [(plS j)]); omega
          obtain ⟨gr, cr, rfl, -, -, -⟩ := own_at5 got'.row hE0
          refine hKK.out _ _ (vonto GT.out.bel hbz) (fun _ => ?_)
          clear hKK KK
          have gz := GT.out.onto hbz
          refine step_h (i := 14) rfl (by kernel_rfl) ?_
          intro KK hKK
          refine step_append_lies _ (by rfl) _ _ _ (by rfl) W1.heap.size 41 i2 (.slice none 0 0) 1 24 Tryz.underlying60 hj' hy0' hy1' hy2' rfl (by decide) _ E.length _ (by rfl) gz.row ⟨gr, 0, none⟩ E'.length cr (E'.map (·.2)) (by rfl) (by simp) (got'.row.cells rfl) (ones_of got'.els) hE0 (by unfold maxLen; omega) (by omega) (by have := gz.bel.size; omega) wz.heap.size rfl ?_
          intro ga capa wa howna hgra hata hlta
          have gta := gz.more (fun e he => (got'.els e he).mono (by have := (vonto GT.out.bel HB9.out).size; omega)) howna hgra
          have GTA := hid gta
          have HMA : Hid ((E ++ E').map (·.1) = p :: allL (T.ls.take (j + 1)) 0 p) := hid (by rw [List.map_append, HM.out, hmap']; rw [List.take_add_one, ht]; simp only [Option.toList_some]; rw [allL_snoc, List.length_take, Nat.min_eq_left (by omega), Nat.zero_add]; rfl)
          refine hKK.out _ _ gta.bel (fun hSa => ?_)
          clear hKK KK howna hgra hata hlta gta gz
          simp only [Act.put, List.setIfInBounds_toArray, List.set_cons_zero, List.set_cons_succ]
          refine take_h (i := 15) (v := ?_) rfl (by kernel_rfl) (by kernel_rfl) (by kernel_rfl) (fun _ _ _ h => h) (by rfl) ?_ hSa ?_
          rotate_left
          · (intro X hX; go_simp; try with_reducible rfl)
          simp only [Act.put, List.setIfInBounds_toArray, List.set_cons_zero, List.set_cons_succ]
          refine wpAnyH_done (by kernel_rfl) ?_ _
          go_wp2_with fail
          go_roundw
          case rel => exact ⟨j + 1, E ++ E', val_int (by omega), hlt, GTA, HMA⟩
          case measure => simp [intOf]; omega
        · go_simp
          have hX2 : Below wr.heap.size wr ((wr.alloc (.cells #[] 79)).alloc (.cells #[.string ⟨#[]⟩, .int .i64 (j : Int), .bool true] 79)).drew := (valloc_bel (valloc_bel (Below.refl _ _) _) _).drew
          refine hKK.out _ _ (vonto GT.out.bel hX2) (fun _ => ?_)
          clear hKK KK hX
          have n31 := new_cells (wr.alloc (.cells #[] 79)) (sc (plS j)) 79
          rw [World.size_alloc] at n31
          obtain ⟨u7, Y8, hr8, h27, hbl8, hfar8, hsz8⟩ := p5_copy wr.heap.size ((wr.alloc (.cells #[] 79)).alloc (.cells #[.string ⟨#[]⟩, .int .i64 (j : Int), .bool true] 79)).drew wr.heap.size p op cp 41 (World.ownsRow.drew (World.ownsRow.alloc (by have := World.ownsRow_lit (base := wr.heap.size) (e := 79) (size := 3) wr #[] 0 (Nat.le_refl _) (by decide) rfl; simpa using this : (wr.alloc (.cells #[] 79)).ownsRow wr.heap.size 79 3 (.slice (some ⟨wr.heap.size, 0, none⟩) 0 0) 0 []) _)) (IPW.out.onto hX2) (by have := hX2.size; omega) (by omega)
          have hY : Below wr.heap.size wr Y8 := hbl8 wr rfl hX2
          obtain ⟨ou7, cu7, rfl⟩ := own_sl5 h27
          refine step_h (i := 8) rfl (by kernel_rfl) ?_
          intro KK hKK
          refine step_app (by rfl) _ _ _ (by rfl) _ _ (by rfl) (by rfl) _ Y8 hr8 ?_
          refine hKK.out _ _ (vonto GT.out.bel hY) (fun _ => ?_)
          clear hKK KK hr8
          simp only [Act.put, List.setIfInBounds_toArray, List.set_cons_zero, List.set_cons_succ]
          have n30 : ∀ (z : Nat) (u : Value), (sc (plS j))[z]? = some u → Y8.cell? ((⟨wr.heap.size + 1, 0, none⟩ : Addr).add z) = some u := fun z u h => by rw [hfar8 _ (by rw [addr_block]; simp) (by rw [addr_block]; show wr.heap.size + 1 ≠ wr.heap.size; omega)]; exact n31 z u h
          refine step_h (i := 12) rfl (by kernel_rfl) ?_
          intro KK hKK
          refine step_append_lies _ (by rfl) _ _ _ (by rfl) wr.heap.size 79 i1 (.agg #[.string ⟨#[]⟩, .int .i64 0, .bool false]) 3 32 Tryz.underlying41 hi' hz0' hz1' hz2' rfl (by decide) _ p.length _ (by rfl) h27 ⟨wr.heap.size + 1, 0, none⟩ 1 1 (sc (plS j)) (by rfl) rfl n30 (sc_one _) (by decide) (by unfold maxLen; omega) (by omega) (by have := (hY).size; omega) (Y8).heap.size rfl ?_
          intro g9 cap9 w9 hown9 hgr9 hat9 hlt9
          have hb9 : Below wr.heap.size wr w9 := (hY).grown hgr9 (by have := (hY).size; omega) (fun q hq => (World.ownsRow.lt h27 q hq).1)
          have own9 : w9.ownsRow wr.heap.size 79 3 (.slice (some ⟨g9, 0, none⟩) (p.length + 1) cap9) (p ++ [(plS j)]).length ((p ++ [(plS j)]).flatMap sc) := by rw [List.flatMap_append, List.length_append]; simpa using hown9
          have IN9 := hid (own_inp own9 (fun s hs => (List.mem_append.1 hs).elim (fun h => HKEY.out s h) (fun h => by rw [List.mem_singleton.1 h]; exact Nat.zero_le _)))
          have HB9 := hid hb9
          refine hKK.out _ _ (vonto GT.out.bel hb9) (fun _ => ?_)
          clear hKK KK hown9 hgr9 hat9 own9
          refine step_h (i := 13) rfl (by kernel_rfl) ?_
          intro KK hKK
          go_simp
          have CA := hid (HIH.out t _ _ (p ++ [(plS j)]) _ w9 (by omega) hpt (HVT.out.onto (vonto GT.out.bel HB9.out)) IN9.out (by rw [List.length_append, List.length_singleton]; omega))
          simp only [vv] at CA
          go_wp2_with (go_at_call 32; go_must (refine CA.out.mono ?_; rintro e wz ⟨ur, E', rfl, got', hmap'⟩))
          have hbz := vonto HB9.out got'.bel
          have hE0 : 0 < E'.length := by have := congrArg List.length hmap'; rw [List.length_map] at this; rw [this]; exact allT_ne _ _
          have hEl : E'.length ≤ 100000 := by have := congrArg List.length hmap'; rw [List.length_map] at this; rw [this]; have := allT_len t (p ++ [(plS j)]); omega
          obtain ⟨gr, cr, rfl, -, -, -⟩ := own_at5 got'.row hE0
          refine hKK.out _ _ (vonto GT.out.bel hbz) (fun _ => ?_)
          clear hKK KK
          have gz := GT.out.onto hbz
          refine step_h (i := 14) rfl (by kernel_rfl) ?_
          intro KK hKK
          refine step_append_lies _ (by rfl) _ _ _ (by rfl) W1.heap.size 41 i2 (.slice none 0 0) 1 24 Tryz.underlying60 hj' hy0' hy1' hy2' rfl (by decide) _ E.length _ (by rfl) gz.row ⟨gr, 0, none⟩ E'.length cr (E'.map (·.2)) (by rfl) (by simp) (got'.row.cells rfl) (ones_of got'.els) hE0 (by unfold maxLen; omega) (by omega) (by have := gz.bel.size; omega) wz.heap.size rfl ?_
          intro ga capa wa howna hgra hata hlta
          have gta := gz.more (fun e he => (got'.els e he).mono (by have := (vonto GT.out.bel HB9.out).size; omega)) howna hgra
          have GTA := hid gta
          have HMA : Hid ((E ++ E').map (·.1) = p :: allL (T.ls.take (j + 1)) 0 p) := hid (by rw [List.map_append, HM.out, hmap']; rw [List.take_add_one, ht]; simp only [Option.toList_some]; rw [allL_snoc, List.length_take, Nat.min_eq_left (by omega), Nat.zero_add]; rfl)
          refine hKK.out _ _ gta.bel (fun hSa => ?_)
          clear hKK KK howna hgra hata hlta gta gz
          simp only [Act.put, List.setIfInBounds_toArray, List.set_cons_zero, List.set_cons_succ]
          refine take_h (i := 15) (v := ?_) rfl (by kernel_rfl) (by kernel_rfl) (by kernel_rfl) (fun _ _ _ h => h) (by rfl) ?_ hSa ?_
          rotate_left
          · (intro X hX; go_simp; try with_reducible rfl)
          simp only [Act.put, List.setIfInBounds_toArray, List.set_cons_zero, List.set_cons_succ]
          refine wpAnyH_done (by kernel_rfl) ?_ _
          go_wp2_with fail
          go_roundw
          case rel => exact ⟨j + 1, E ++ E', val_int (by omega), hlt, GTA, HMA⟩
          case measure => simp [intOf]; omega
      · go_simp
        have hX1 : Below wr.heap.size wr (wr.alloc (.cells #[.string ⟨#[]⟩, .int .i64 (j : Int), .bool true] 79)).drew := (valloc_bel (Below.refl _ _) _).drew
        refine hKK.out _ _ (vonto GT.out.bel hX1) (fun _ => ?_)
        clear hKK KK
        have n31 := new_cells wr (sc (plS j)) 79
        have hX2 : Below wr.heap.size wr ((wr.alloc (.cells #[.string ⟨#[]⟩, .int .i64 (j : Int), .bool true] 79)).alloc (.cells #[] 79)).drew := (valloc_bel (valloc_bel (Below.refl _ _) _) _).drew
        refine step_h (i := 6) rfl (by kernel_rfl) ?_
        intro KK hKK
        go_simp
        refine hKK.out _ _ (vonto GT.out.bel hX2) (fun _ => ?_)
        clear hKK KK
        obtain ⟨u7, Y8, hr8, h27, hbl8, hfar8, hsz8⟩ := p5_copy wr.heap.size ((wr.alloc (.cells #[.string ⟨#[]⟩, .int .i64 (j : Int), .bool true] 79)).alloc (.cells #[] 79)).drew (wr.heap.size + 1) p op cp 41 (World.ownsRow.drew (by have := World.ownsRow_lit (base := wr.heap.size) (e := 79) (size := 3) (wr.alloc (.cells #[.string ⟨#[]⟩, .int .i64 (j : Int), .bool true] 79)) #[] 0 (by simp) (by decide) rfl; rw [World.size_alloc] at this; simpa using this : ((wr.alloc (.cells #[.string ⟨#[]⟩, .int .i64 (j : Int), .bool true] 79)).alloc (.cells #[] 79)).ownsRow wr.heap.size 79 3 (.slice (some ⟨wr.heap.size + 1, 0, none⟩) 0 0) 0 [])) (IPW.out.onto hX2) (by have := hX2.size; omega) (by omega)
        have hY : Below wr.heap.size wr Y8 := hbl8 wr rfl hX2
        obtain ⟨ou7, cu7, rfl⟩ := own_sl5 h27
        refine step_h (i := 8) rfl (by kernel_rfl) ?_
        intro KK hKK
        refine step_app (by rfl) _ _ _ (by rfl) _ _ (by rfl) (by rfl) _ Y8 hr8 ?_
        refine hKK.out _ _ (vonto GT.out.bel hY) (fun _ => ?_)
        clear hKK KK hr8
        simp only [Act.put, List.setIfInBounds_toArray, List.set_cons_zero, List.set_cons_succ]
        have n30 : ∀ (z : Nat) (u : Value), (sc (plS j))[z]? = some u → Y8.cell? ((⟨wr.heap.size, 0, none⟩ : Addr).add z) = some u := fun z u h => by rw [hfar8 _ (by rw [addr_block]; simp; omega) (by rw [addr_block]; show wr.heap.size ≠ wr.heap.size + 1; omega)]; exact keepCell (valloc_bel (Below.refl _ _) _).drew (n31 z u h)
        refine step_h (i := 12) rfl (by kernel_rfl) ?_
        intro KK hKK
        refine step_append_lies _ (by rfl) _ _ _ (by rfl) wr.heap.size 79 i1 (.agg #[.string ⟨#[]⟩, .int .i64 0, .bool false]) 3 32 Tryz.underlying41 hi' hz0' hz1' hz2' rfl (by decide) _ p.length _ (by rfl) h27 ⟨wr.heap.size, 0, none⟩ 1 1 (sc (plS j)) (by rfl) rfl n30 (sc_one _) (by decide) (by unfold maxLen; omega) (by omega) (by have := (hY).size; omega) (Y8).heap.size rfl ?_
        intro g9 cap9 w9 hown9 hgr9 hat9 hlt9
        have hb9 : Below wr.heap.size wr w9 := (hY).grown hgr9 (by have := (hY).size; omega) (fun q hq => (World.ownsRow.lt h27 q hq).1)
        have own9 : w9.ownsRow wr.heap.size 79 3 (.slice (some ⟨g9, 0, none⟩) (p.length + 1) cap9) (p ++ [(plS j)]).length ((p ++ [(plS j)]).flatMap sc) := by rw [List.flatMap_append, List.length_append]; simpa using hown9
        have IN9 := hid (own_inp own9 (fun s hs => (List.mem_append.1 hs).elim (fun h => HKEY.out s h) (fun h => by rw [List.mem_singleton.1 h]; exact Nat.zero_le _)))
        have HB9 := hid hb9
        refine hKK.out _ _ (vonto GT.out.bel hb9) (fun _ => ?_)
        clear hKK KK hown9 hgr9 hat9 own9
        refine step_h (i := 13) rfl (by kernel_rfl) ?_
        intro KK hKK
        go_simp
        have CA := hid (HIH.out t _ _ (p ++ [(plS j)]) _ w9 (by omega) hpt (HVT.out.onto (vonto GT.out.bel HB9.out)) IN9.out (by rw [List.length_append, List.length_singleton]; omega))
        simp only [vv] at CA
        go_wp2_with (go_at_call 32; go_must (refine CA.out.mono ?_; rintro e wz ⟨ur, E', rfl, got', hmap'⟩))
        have hbz := vonto HB9.out got'.bel
        have hE0 : 0 < E'.length := by have := congrArg List.length hmap'; rw [List.length_map] at this; rw [this]; exact allT_ne _ _
        have hEl : E'.length ≤ 100000 := by have := congrArg List.length hmap'; rw [List.length_map] at this; rw [this]; have := allT_len t (p ++ [(plS j)]); omega
        obtain ⟨gr, cr, rfl, -, -, -⟩ := own_at5 got'.row hE0
        refine hKK.out _ _ (vonto GT.out.bel hbz) (fun _ => ?_)
        clear hKK KK
        have gz := GT.out.onto hbz
        refine step_h (i := 14) rfl (by kernel_rfl) ?_
        intro KK hKK
        refine step_append_lies _ (by rfl) _ _ _ (by rfl) W1.heap.size 41 i2 (.slice none 0 0) 1 24 Tryz.underlying60 hj' hy0' hy1' hy2' rfl (by decide) _ E.length _ (by rfl) gz.row ⟨gr, 0, none⟩ E'.length cr (E'.map (·.2)) (by rfl) (by simp) (got'.row.cells rfl) (ones_of got'.els) hE0 (by unfold maxLen; omega) (by omega) (by have := gz.bel.size; omega) wz.heap.size rfl ?_
        intro ga capa wa howna hgra hata hlta
        have gta := gz.more (fun e he => (got'.els e he).mono (by have := (vonto GT.out.bel HB9.out).size; omega)) howna hgra
        have GTA := hid gta
        have HMA : Hid ((E ++ E').map (·.1) = p :: allL (T.ls.take (j + 1)) 0 p) := hid (by rw [List.map_append, HM.out, hmap']; rw [List.take_add_one, ht]; simp only [Option.toList_some]; rw [allL_snoc, List.length_take, Nat.min_eq_left (by omega), Nat.zero_add]; rfl)
        refine hKK.out _ _ gta.bel (fun hSa => ?_)
        clear hKK KK howna hgra hata hlta gta gz
        simp only [Act.put, List.setIfInBounds_toArray, List.set_cons_zero, List.set_cons_succ]
        refine take_h (i := 15) (v := ?_) rfl (by kernel_rfl) (by kernel_rfl) (by kernel_rfl) (fun _ _ _ h => h) (by rfl) ?_ hSa ?_
        rotate_left
        · (intro X hX; go_simp; try with_reducible rfl)
        simp only [Act.put, List.setIfInBounds_toArray, List.set_cons_zero, List.set_cons_succ]
        refine wpAnyH_done (by kernel_rfl) ?_ _
        go_wp2_with fail
        go_roundw
        case rel => exact ⟨j + 1, E ++ E', val_int (by omega), hlt, GTA, HMA⟩
        case measure => simp [intOf]; omega
    · have HM1 := hid (show E.map (·.1) = p :: (allL T.ls 0 p ++ allM (T.vs.take 0) T.ks p) by rw [HM.out, List.take_of_length_le (by omega)]; simp [allM])
      clear HM hEL
      go_wp2_with fail
      go_loopw [5, 7] (fun l i wr => ∃ (j : Nat) (E : List (List PStep × Value)), i = .int .i64 j ∧ j ≤ T.vs.length ∧ Hid (Got W1 wr l E) ∧ Hid (E.map (·.1) = p :: (allL T.ls 0 p ++ allM (T.vs.take j) T.ks p))) (fun _ i _ => T.vs.length - (intOf i).toNat)
      case atStart => exact ⟨0, E, rfl, Nat.zero_le _, GT, HM1⟩
      case round =>
        clear GT HM1 k3 hlt
        obtain ⟨j, E, rfl, hj, GT, HM⟩ := hrel
        obtain ⟨ol, cl, rfl⟩ := own_sl5 GT.out.row
        have hEL : E.length ≤ 100000 := by
          have := congrArg List.length HM.out
          rw [List.length_map, List.length_cons, List.length_append] at this
          have h0 := allL_len T.ls 0 p
          have h1 := allM_len (T.vs.take j) T.ks p
          have h2 := szL_take_le T.vs j
          have h3 := sz_both T
          omega
        have k4 := keepCell GT.out.bel hk4
        by_cases hlt : j < T.vs.length
        · obtain ⟨t, ht⟩ : ∃ t, T.vs[j]? = some t := ⟨T.vs[j], List.getElem?_eq_getElem hlt⟩
          obtain ⟨c, hc⟩ : ∃ c, T.ks[j]? = some c := ⟨T.ks[j]'(by omega), List.getElem?_eq_getElem (by omega)⟩
          obtain rfl := hoM (by omega)
          obtain ⟨ck, hcs⟩ := CKN.out j c hc
          obtain ⟨e0', e1', e2', e3', e4'⟩ := CMN.out j t ht
          have HVT := hid (RM.out j t ht)
          obtain ⟨q1, m1, d1, q2, m2, d2, hf1, hg1⟩ := hv_slices HVT.out
          rw [hf1] at e3' HVT
          rw [hg1] at e4' HVT
          have hpt := plain_vs HPL.out ht
          have hst := szT_vs T j t ht
          have IPW := hid (HP1.out.onto GT.out.bel)
          clear k4
          simp only [nx] at e0' e1' e2' e3' e4'
          have e0 := e0'; have e1 := e1'; have e2 := e2'; have e3 := e3'; have e4 := e4'; have k4 := hk4
          have z4 := keepCell GT.out.bel hk4
          go_wp2_with fail
          refine wp_region_h (S := fun X => Below W1.heap.size W1 X) 22 (by kernel_rfl) (by kernel_rfl) ?_
          have hS0 : Below W1.heap.size W1 wr.drew := GT.out.bel.drew
          refine take_h (i := 0) (v := ?_) rfl (by kernel_rfl) (by kernel_rfl) (by kernel_rfl) (fun _ _ _ h => h) (by rfl) ?_ hS0 ?_
          rotate_left
          · (intro X hX; have y0 := keepCell hX k4; have y1 := keepCell hX ck; have y2 := keepCell hX e0; have y3 := keepCell hX e1; have y4 := keepCell hX e2; have y5 := keepCell hX e3; have y6 := keepCell hX e4; go_simp; try with_reducible rfl)
          simp only [Act.put, List.setIfInBounds_toArray, List.set_cons_zero, List.set_cons_succ]
          refine take_h (i := 1) (v := ?_) rfl (by kernel_rfl) (by kernel_rfl) (by kernel_rfl) (fun _ _ _ h => h) (by rfl) ?_ hS0 ?_
          rotate_left
          · (intro X hX; have y0 := keepCell hX k4; have y1 := keepCell hX ck; have y2 := keepCell hX e0; have y3 := keepCell hX e1; have y4 := keepCell hX e2; have y5 := keepCell hX e3; have y6 := keepCell hX e4; go_simp; try with_reducible rfl)
          simp only [Act.put, List.setIfInBounds_toArray, List.set_cons_zero, List.set_cons_succ]
          refine take_h (i := 2) (v := ?_) rfl (by kernel_rfl) (by kernel_rfl) (by kernel_rfl) (fun _ _ _ h => h) (by rfl) ?_ hS0 ?_
          rotate_left
          · (intro X hX; have y0 := keepCell hX k4; have y1 := keepCell hX ck; have y2 := keepCell hX e0; have y3 := keepCell hX e1; have y4 := keepCell hX e2; have y5 := keepCell hX e3; have y6 := keepCell hX e4; go_simp; try with_reducible rfl)
          simp only [Act.put, List.setIfInBounds_toArray, List.set_cons_zero, List.set_cons_succ]
          refine take_h (i := 3) (v := ?_) rfl (by kernel_rfl) (by kernel_rfl) (by kernel_rfl) (fun _ _ _ h => h) (by rfl) ?_ hS0 ?_
          rotate_left
          · (intro X hX; have y0 := keepCell hX k4; have y1 := keepCell hX ck; have y2 := keepCell hX e0; have y3 := keepCell hX e1; have y4 := keepCell hX e2; have y5 := keepCell hX e3; have y6 := keepCell hX e4; go_simp; try with_reducible rfl)
          simp only [Act.put, List.setIfInBounds_toArray, List.set_cons_zero, List.set_cons_succ]
          refine take_h (i := 4) (v := ?_) rfl (by kernel_rfl) (by kernel_rfl) (by kernel_rfl) (fun _ _ _ h => h) (by rfl) ?_ hS0 ?_
          rotate_left
          · (intro X hX; have y0 := keepCell hX k4; have y1 := keepCell hX ck; have y2 := keepCell hX e0; have y3 := keepCell hX e1; have y4 := keepCell hX e2; have y5 := keepCell hX e3; have y6 := keepCell hX e4; go_simp; try with_reducible rfl)
          simp only [Act.put, List.setIfInBounds_toArray, List.set_cons_zero, List.set_cons_succ]
          refine take_h (i := 5) (v := ?_) rfl (by kernel_rfl) (by kernel_rfl) (by kernel_rfl) (fun _ _ _ h => h) (by rfl) ?_ hS0 ?_
          rotate_left
          · (intro X hX; have y0 := keepCell hX k4; have y1 := keepCell hX ck; have y2 := keepCell hX e0; have y3 := keepCell hX e1; have y4 := keepCell hX e2; have y5 := keepCell hX e3; have y6 := keepCell hX e4; go_simp; try with_reducible rfl)
          simp only [Act.put, List.setIfInBounds_toArray, List.set_cons_zero, List.set_cons_succ]
          refine take_h (i := 6) (v := ?_) rfl (by kernel_rfl) (by kernel_rfl) (by kernel_rfl) (fun _ _ _ h => h) (by rfl) ?_ hS0 ?_
          rotate_left
          · (intro X hX; have y0 := keepCell hX k4; have y1 := keepCell hX ck; have y2 := keepCell hX e0; have y3 := keepCell hX e1; have y4 := keepCell hX e2; have y5 := keepCell hX e3; have y6 := keepCell hX e4; go_simp; try with_reducible rfl)
          simp only [Act.put, List.setIfInBounds_toArray, List.set_cons_zero, List.set_cons_succ]
          refine take_h (i := 8) (v := ?_) rfl (by kernel_rfl) (by kernel_rfl) (by kernel_rfl) (fun _ _ _ h => h) (by rfl) ?_ hS0 ?_
          rotate_left
          · (intro X hX; have y0 := keepCell hX k4; have y1 := keepCell hX ck; have y2 := keepCell hX e0; have y3 := keepCell hX e1; have y4 := keepCell hX e2; have y5 := keepCell hX e3; have y6 := keepCell hX e4; go_simp; try with_reducible rfl)
          simp only [Act.put, List.setIfInBounds_toArray, List.set_cons_zero, List.set_cons_succ]
          refine take_h (i := 10) (v := ?_) rfl (by kernel_rfl) (by kernel_rfl) (by kernel_rfl) (fun _ _ _ h => h) (by rfl) ?_ hS0 ?_
          rotate_left
          · (intro X hX; have y0 := keepCell hX k4; have y1 := keepCell hX ck; have y2 := keepCell hX e0; have y3 := keepCell hX e1; have y4 := keepCell hX e2; have y5 := keepCell hX e3; have y6 := keepCell hX e4; go_simp; try with_reducible rfl)
          simp only [Act.put, List.setIfInBounds_toArray, List.set_cons_zero, List.set_cons_succ]
          refine take_h (i := 11) (v := ?_) rfl (by kernel_rfl) (by kernel_rfl) (by kernel_rfl) (fun _ _ _ h => h) (by rfl) ?_ hS0 ?_
          rotate_left
          · (intro X hX; have y0 := keepCell hX k4; have y1 := keepCell hX ck; have y2 := keepCell hX e0; have y3 := keepCell hX e1; have y4 := keepCell hX e2; have y5 := keepCell hX e3; have y6 := keepCell hX e4; go_simp; try with_reducible rfl)
          simp only [Act.put, List.setIfInBounds_toArray, List.set_cons_zero, List.set_cons_succ]
          refine take_h (i := 12) (v := ?_) rfl (by kernel_rfl) (by kernel_rfl) (by kernel_rfl) (fun _ _ _ h => h) (by rfl) ?_ hS0 ?_
          rotate_left
          · (intro X hX; have y0 := keepCell hX k4; have y1 := keepCell hX ck; have y2 := keepCell hX e0; have y3 := keepCell hX e1; have y4 := keepCell hX e2; have y5 := keepCell hX e3; have y6 := keepCell hX e4; go_simp; try with_reducible rfl)
          simp only [Act.put, List.setIfInBounds_toArray, List.set_cons_zero, List.set_cons_succ]
          refine take_h (i := 13) (v := ?_) rfl (by kernel_rfl) (by kernel_rfl) (by kernel_rfl) (fun _ _ _ h => h) (by rfl) ?_ hS0 ?_
          rotate_left
          · (intro X hX; have y0 := keepCell hX k4; have y1 := keepCell hX ck; have y2 := keepCell hX e0; have y3 := keepCell hX e1; have y4 := keepCell hX e2; have y5 := keepCell hX e3; have y6 := keepCell hX e4; go_simp; try with_reducible rfl)
          simp only [Act.put, List.setIfInBounds_toArray, List.set_cons_zero, List.set_cons_succ]
          refine take_h (i := 14) (v := ?_) rfl (by kernel_rfl) (by kernel_rfl) (by kernel_rfl) (fun _ _ _ h => h) (by rfl) ?_ hS0 ?_
          rotate_left
          · (intro X hX; have y0 := keepCell hX k4; have y1 := keepCell hX ck; have y2 := keepCell hX e0; have y3 := keepCell hX e1; have y4 := keepCell hX e2; have y5 := keepCell hX e3; have y6 := keepCell hX e4; go_simp; try with_reducible rfl)
          simp only [Act.put, List.setIfInBounds_toArray, List.set_cons_zero, List.set_cons_succ]
          refine take_h (i := 15) (v := ?_) rfl (by kernel_rfl) (by kernel_rfl) (by kernel_rfl) (fun _ _ _ h => h) (by rfl) ?_ hS0 ?_
          rotate_left
          · (intro X hX; have y0 := keepCell hX k4; have y1 := keepCell hX ck; have y2 := keepCell hX e0; have y3 := keepCell hX e1; have y4 := keepCell hX e2; have y5 := keepCell hX e3; have y6 := keepCell hX e4; go_simp; try with_reducible rfl)
          simp only [Act.put, List.setIfInBounds_toArray, List.set_cons_zero, List.set_cons_succ]
          refine take_h (i := 16) (v := ?_) rfl (by kernel_rfl) (by kernel_rfl) (by kernel_rfl) (fun _ _ _ h => h) (by rfl) ?_ hS0 ?_
          rotate_left
          · (intro X hX; have y0 := keepCell hX k4; have y1 := keepCell hX ck; have y2 := keepCell hX e0; have y3 := keepCell hX e1; have y4 := keepCell hX e2; have y5 := keepCell hX e3; have y6 := keepCell hX e4; go_simp; try with_reducible rfl)
          simp only [Act.put, List.setIfInBounds_toArray, List.set_cons_zero, List.set_cons_succ]
          refine wpAnyH_ready (rs := [7, 17]) (by kernel_rfl) (by simp) ?_
          refine AllReadyH.cons rfl (fun KK hKK => ?_) (AllReadyH.cons rfl (fun KK hKK => ?_) AllReadyH.nil)
          · go_simp
            have hX : Below wr.heap.size wr (wr.alloc (.cells #[] 79)).drew := (valloc_bel (Below.refl _ _) _).drew
            refine hKK.out _ _ (vonto GT.out.bel hX) (fun _ => ?_)
            clear hKK KK
            refine wpAnyH_ready (rs := [9, 17]) (by kernel_rfl) (by simp) ?_
            refine AllReadyH.cons rfl (fun KK hKK => ?_) (AllReadyH.cons rfl (fun KK hKK => ?_) AllReadyH.nil)
            · obtain ⟨u7, Y8, hr8, h27, hbl8, hfar8, hsz8⟩ := p5_copy wr.heap.size (wr.alloc (.cells #[] 79)).drew wr.heap.size p op cp 41 (World.ownsRow.drew (by have := World.ownsRow_lit (base := wr.heap.size) (e := 79) (size := 3) wr #[] 0 (Nat.le_refl _) (by decide) rfl; simpa using this : (wr.alloc (.cells #[] 79)).ownsRow wr.heap.size 79 3 (.slice (some ⟨wr.heap.size, 0, none⟩) 0 0) 0 [])) (IPW.out.onto hX) (by have := hX.size; omega) (by omega)
              have hY : Below wr.heap.size wr Y8 := hbl8 wr rfl hX
              obtain ⟨ou7, cu7, rfl⟩ := own_sl5 h27
              refine step_app (by rfl) _ _ _ (by rfl) _ _ (by rfl) (by rfl) _ Y8 hr8 ?_
              refine hKK.out _ _ (vonto GT.out.bel hY) (fun _ => ?_)
              clear hKK KK hr8
              simp only [Act.put, List.setIfInBounds_toArray]
              have hXX := vonto hY (valloc_bel (Below.refl Y8.heap.size Y8) (.cells #[.string c, .int .i64 0, .bool false] 79))
              refine step_h (i := 17) rfl (by kernel_rfl) ?_
              intro KK hKK
              go_simp
              refine hKK.out _ _ (vonto GT.out.bel hXX) (fun _ => ?_)
              clear hKK KK
              have n30 := new_cells Y8 (sc (kyS c)) 79
              have g27a := h27.alloc (.cells #[.string c, .int .i64 0, .bool false] 79)
              refine step_h (i := 18) rfl (by kernel_rfl) ?_
              intro KK hKK
              refine step_append_lies _ (by rfl) _ _ _ (by rfl) wr.heap.size 79 i1 (.agg #[.string ⟨#[]⟩, .int .i64 0, .bool false]) 3 32 Tryz.underlying41 hi' hz0' hz1' hz2' rfl (by decide) _ p.length _ (by rfl) g27a ⟨Y8.heap.size, 0, none⟩ 1 1 (sc (kyS c)) (by rfl) rfl n30 (sc_one _) (by decide) (by unfold maxLen; omega) (by omega) (by have := (hXX).size; omega) (Y8.alloc (.cells #[.string c, .int .i64 0, .bool false] 79)).heap.size rfl ?_
              intro g9 cap9 w9 hown9 hgr9 hat9 hlt9
              have hb9 : Below wr.heap.size wr w9 := (hXX).grown hgr9 (by have := (hXX).size; omega) (fun q hq => (World.ownsRow.lt g27a q hq).1)
              have own9 : w9.ownsRow wr.heap.size 79 3 (.slice (some ⟨g9, 0, none⟩) (p.length + 1) cap9) (p ++ [(kyS c)]).length ((p ++ [(kyS c)]).flatMap sc) := by rw [List.flatMap_append, List.length_append]; simpa using hown9
              have IN9 := hid (own_inp own9 (fun s hs => (List.mem_append.1 hs).elim (fun h => HKEY.out s h) (fun h => by rw [List.mem_singleton.1 h]; exact hcs)))
              have HB9 := hid hb9
              refine hKK.out _ _ (vonto GT.out.bel hb9) (fun _ => ?_)
              clear hKK KK hown9 hgr9 hat9 own9
              refine step_h (i := 19) rfl (by kernel_rfl) ?_
              intro KK hKK
              go_simp
              have CA := hid (HIH.out t _ _ (p ++ [(kyS c)]) _ w9 (by omega) hpt (HVT.out.onto (vonto GT.out.bel HB9.out)) IN9.out (by rw [List.length_append, List.length_singleton]; omega))
              simp only [vv] at CA
              go_wp2_with (go_at_call 32; go_must (refine CA.out.mono ?_; rintro e wz ⟨ur, E', rfl, got', hmap'⟩))
              have hbz := vonto HB9.out got'.bel
              have hE0 : 0 < E'.length := by have := congrArg List.length hmap'; rw [List.length_map] at this; rw [this]; exact allT_ne _ _
              have hEl : E'.length ≤ 100000 := by have := congrArg List.length hmap'; rw [List.length_map] at this; rw [this]; have := allT_len t (p ++ [(kyS c)]); omega
              obtain ⟨gr, cr, rfl, -, -, -⟩ := own_at5 got'.row hE0
              refine hKK.out _ _ (vonto GT.out.bel hbz) (fun _ => ?_)
              clear hKK KK
              have gz := GT.out.onto hbz
              refine step_h (i := 20) rfl (by kernel_rfl) ?_
              intro KK hKK
              refine step_append_lies _ (by rfl) _ _ _ (by rfl) W1.heap.size 41 i2 (.slice none 0 0) 1 24 Tryz.underlying60 hj' hy0' hy1' hy2' rfl (by decide) _ E.length _ (by rfl) gz.row ⟨gr, 0, none⟩ E'.length cr (E'.map (·.2)) (by rfl) (by simp) (got'.row.cells rfl) (ones_of got'.els) hE0 (by unfold maxLen; omega) (by omega) (by have := gz.bel.size; omega) wz.heap.size rfl ?_
              intro ga capa wa howna hgra hata hlta
              have gta := gz.more (fun e he => (got'.els e he).mono (by have := (vonto GT.out.bel HB9.out).size; omega)) howna hgra
              have GTA := hid gta
              have HMA : Hid ((E ++ E').map (·.1) = p :: (allL T.ls 0 p ++ allM (T.vs.take (j + 1)) T.ks p)) := hid (by rw [List.map_append, HM.out, hmap']; rw [List.take_add_one, ht]; simp only [Option.toList_some]; rw [allM_snoc t p (T.vs.take j) T.ks c (by rw [List.length_take, Nat.min_eq_left (by omega)]; exact hc)]; simp)
              refine hKK.out _ _ gta.bel (fun hSa => ?_)
              clear hKK KK howna hgra hata hlta gta gz
              simp only [Act.put, List.setIfInBounds_toArray, List.set_cons_zero, List.set_cons_succ]
              refine take_h (i := 21) (v := ?_) rfl (by kernel_rfl) (by kernel_rfl) (by kernel_rfl) (fun _ _ _ h => h) (by rfl) ?_ hSa ?_
              rotate_left
              · (intro X hX; go_simp; try with_reducible rfl)
              simp only [Act.put, List.setIfInBounds_toArray, List.set_cons_zero, List.set_cons_succ]
              refine wpAnyH_done (by kernel_rfl) ?_ _
              go_wp2_with fail
              go_roundw
              case rel => exact ⟨j + 1, E ++ E', val_int (by omega), hlt, GTA, HMA⟩
              case measure => simp [intOf]; omega
            · go_simp
              have hX2 : Below wr.heap.size wr ((wr.alloc (.cells #[] 79)).alloc (.cells #[.string c, .int .i64 0, .bool false] 79)).drew := (valloc_bel (valloc_bel (Below.refl _ _) _) _).drew
              refine hKK.out _ _ (vonto GT.out.bel hX2) (fun _ => ?_)
              clear hKK KK hX
              have n31 := new_cells (wr.alloc (.cells #[] 79)) (sc (kyS c)) 79
              rw [World.size_alloc] at n31
              obtain ⟨u7, Y8, hr8, h27, hbl8, hfar8, hsz8⟩ := p5_copy wr.heap.size ((wr.alloc (.cells #[] 79)).alloc (.cells #[.string c, .int .i64 0, .bool false] 79)).drew wr.heap.size p op cp 41 (World.ownsRow.drew (World.ownsRow.alloc (by have := World.ownsRow_lit (base := wr.heap.size) (e := 79) (size := 3) wr #[] 0 (Nat.le_refl _) (by decide) rfl; simpa using this : (wr.alloc (.cells #[] 79)).ownsRow wr.heap.size 79 3 (.slice (some ⟨wr.heap.size, 0, none⟩) 0 0) 0 []) _)) (IPW.out.onto hX2) (by have := hX2.size; omega) (by omega)
              have hY : Below wr.heap.size wr Y8 := hbl8 wr rfl hX2
              obtain ⟨ou7, cu7, rfl⟩ := own_sl5 h27
              refine step_h (i := 9) rfl (by kernel_rfl) ?_
              intro KK hKK
              refine step_app (by rfl) _ _ _ (by rfl) _ _ (by rfl) (by rfl) _ Y8 hr8 ?_
              refine hKK.out _ _ (vonto GT.out.bel hY) (fun _ => ?_)
              clear hKK KK hr8
              simp only [Act.put, List.setIfInBounds_toArray, List.set_cons_zero, List.set_cons_succ]
              have n30 : ∀ (z : Nat) (u : Value), (sc (kyS c))[z]? = some u → Y8.cell? ((⟨wr.heap.size + 1, 0, none⟩ : Addr).add z) = some u := fun z u h => by rw [hfar8 _ (by rw [addr_block]; simp) (by rw [addr_block]; show wr.heap.size + 1 ≠ wr.heap.size; omega)]; exact n31 z u h
              refine step_h (i := 18) rfl (by kernel_rfl) ?_
              intro KK hKK
              refine step_append_lies _ (by rfl) _ _ _ (by rfl) wr.heap.size 79 i1 (.agg #[.string ⟨#[]⟩, .int .i64 0, .bool false]) 3 32 Tryz.underlying41 hi' hz0' hz1' hz2' rfl (by decide) _ p.length _ (by rfl) h27 ⟨wr.heap.size + 1, 0, none⟩ 1 1 (sc (kyS c)) (by rfl) rfl n30 (sc_one _) (by decide) (by unfold maxLen; omega) (by omega) (by have := (hY).size; omega) (Y8).heap.size rfl ?_
              intro g9 cap9 w9 hown9 hgr9 hat9 hlt9
              have hb9 : Below wr.heap.size wr w9 := (hY).grown hgr9 (by have := (hY).size; omega) (fun q hq => (World.ownsRow.lt h27 q hq).1)
              have own9 : w9.ownsRow wr.heap.size 79 3 (.slice (some ⟨g9, 0, none⟩) (p.length + 1) cap9) (p ++ [(kyS c)]).length ((p ++ [(kyS c)]).flatMap sc) := by rw [List.flatMap_append, List.length_append]; simpa using hown9
              have IN9 := hid (own_inp own9 (fun s hs => (List.mem_append.1 hs).elim (fun h => HKEY.out s h) (fun h => by rw [List.mem_singleton.1 h]; exact hcs)))
              have HB9 := hid hb9
              refine hKK.out _ _ (vonto GT.out.bel hb9) (fun _ => ?_)
              clear hKK KK hown9 hgr9 hat9 own9
              refine step_h (i := 19) rfl (by kernel_rfl) ?_
              intro KK hKK
              go_simp
              have CA := hid (HIH.out t _ _ (p ++ [(kyS c)]) _ w9 (by omega) hpt (HVT.out.onto (vonto GT.out.bel HB9.out)) IN9.out (by rw [List.length_append, List.length_singleton]; omega))
              simp only [vv] at CA
              go_wp2_with (go_at_call 32; go_must (refine CA.out.mono ?_; rintro e wz ⟨ur, E', rfl, got', hmap'⟩))
              have hbz := vonto HB9.out got'.bel
              have hE0 : 0 < E'.length := by have := congrArg List.length hmap'; rw [List.length_map] at this; rw [this]; exact allT_ne _ _
              have hEl : E'.length ≤ 100000 := by have := congrArg List.length hmap'; rw [List.length_map] at this; rw [this]; have := allT_len t (p ++ [(kyS c)]); omega
              obtain ⟨gr, cr, rfl, -, -, -⟩ := own_at5 got'.row hE0
              refine hKK.out _ _ (vonto GT.out.bel hbz) (fun _ => ?_)
              clear hKK KK
              have gz := GT.out.onto hbz
              refine step_h (i := 20) rfl (by kernel_rfl) ?_
              intro KK hKK
              refine step_append_lies _ (by rfl) _ _ _ (by rfl) W1.heap.size 41 i2 (.slice none 0 0) 1 24 Tryz.underlying60 hj' hy0' hy1' hy2' rfl (by decide) _ E.length _ (by rfl) gz.row ⟨gr, 0, none⟩ E'.length cr (E'.map (·.2)) (by rfl) (by simp) (got'.row.cells rfl) (ones_of got'.els) hE0 (by unfold maxLen; omega) (by omega) (by have := gz.bel.size; omega) wz.heap.size rfl ?_
              intro ga capa wa howna hgra hata hlta
              have gta := gz.more (fun e he => (got'.els e he).mono (by have := (vonto GT.out.bel HB9.out).size; omega)) howna hgra
              have GTA := hid gta
              have HMA : Hid ((E ++ E').map (·.1) = p :: (allL T.ls 0 p ++ allM (T.vs.take (j + 1)) T.ks p)) := hid (by rw [List.map_append, HM.out, hmap']; rw [List.take_add_one, ht]; simp only [Option.toList_some]; rw [allM_snoc t p (T.vs.take j) T.ks c (by rw [List.length_take, Nat.min_eq_left (by omega)]; exact hc)]; simp)
              refine hKK.out _ _ gta.bel (fun hSa => ?_)
              clear hKK KK howna hgra hata hlta gta gz
              simp only [Act.put, List.setIfInBounds_toArray, List.set_cons_zero, List.set_cons_succ]
              refine take_h (i := 21) (v := ?_) rfl (by kernel_rfl) (by kernel_rfl) (by kernel_rfl) (fun _ _ _ h => h) (by rfl) ?_ hSa ?_
              rotate_left
              · (intro X hX; go_simp; try with_reducible rfl)
              simp only [Act.put, List.setIfInBounds_toArray, List.set_cons_zero, List.set_cons_succ]
              refine wpAnyH_done (by kernel_rfl) ?_ _
              go_wp2_with fail
              go_roundw
              case rel => exact ⟨j + 1, E ++ E', val_int (by omega), hlt, GTA, HMA⟩
              case measure => simp [intOf]; omega
          · go_simp
            have hX1 : Below wr.heap.size wr (wr.alloc (.cells #[.string c, .int .i64 0, .bool false] 79)).drew := (valloc_bel (Below.refl _ _) _).drew
            refine hKK.out _ _ (vonto GT.out.bel hX1) (fun _ => ?_)
            clear hKK KK
            have n31 := new_cells wr (sc (kyS c)) 79
            have hX2 : Below wr.heap.size wr ((wr.alloc (.cells #[.string c, .int .i64 0, .bool false] 79)).alloc (.cells #[] 79)).drew := (valloc_bel (valloc_bel (Below.refl _ _) _) _).drew
            refine step_h (i := 7) rfl (by kernel_rfl) ?_
            intro KK hKK
            go_simp
            refine hKK.out _ _ (vonto GT.out.bel hX2) (fun _ => ?_)
            clear hKK KK
            obtain ⟨u7, Y8, hr8, h27, hbl8, hfar8, hsz8⟩ := p5_copy wr.heap.size ((wr.alloc (.cells #[.string c, .int .i64 0, .bool false] 79)).alloc (.cells #[] 79)).drew (wr.heap.size + 1) p op cp 41 (World.ownsRow.drew (by have := World.ownsRow_lit (base := wr.heap.size) (e := 79) (size := 3) (wr.alloc (.cells #[.string c, .int .i64 0, .bool false] 79)) #[] 0 (by simp) (by decide) rfl; rw [World.size_alloc] at this; simpa using this : ((wr.alloc (.cells #[.string c, .int .i64 0, .bool false] 79)).alloc (.cells #[] 79)).ownsRow wr.heap.size 79 3 (.slice (some ⟨wr.heap.size + 1, 0, none⟩) 0 0) 0 [])) (IPW.out.onto hX2) (by have := hX2.size; omega) (by omega)
            have hY : Below wr.heap.size wr Y8 := hbl8 wr rfl hX2
            obtain ⟨ou7, cu7, rfl⟩ := own_sl5 h27
            refine step_h (i := 9) rfl (by kernel_rfl) ?_
            intro KK hKK
            refine step_app (by rfl) _ _ _ (by rfl) _ _ (by rfl) (by rfl) _ Y8 hr8 ?_
            refine hKK.out _ _ (vonto GT.out.bel hY) (fun _ => ?_)
            clear hKK KK hr8
            simp only [Act.put, List.setIfInBounds_toArray, List.set_cons_zero, List.set_cons_succ]
            have n30 : ∀ (z : Nat) (u : Value), (sc (kyS c))[z]? = some u → Y8.cell? ((⟨wr.heap.size, 0, none⟩ : Addr).add z) = some u := fun z u h => by rw [hfar8 _ (by rw [addr_block]; simp; omega) (by rw [addr_block]; show wr.heap.size ≠ wr.heap.size + 1; omega)]; exact keepCell (valloc_bel (Below.refl _ _) _).drew (n31 z u h)
            refine step_h (i := 18) rfl (by kernel_rfl) ?_
            intro KK hKK
            refine step_append_lies _ (by rfl) _ _ _ (by rfl) wr.heap.size 79 i1 (.agg #[.string ⟨#[]⟩, .int .i64 0, .bool false]) 3 32 Tryz.underlying41 hi' hz0' hz1' hz2' rfl (by decide) _ p.length _ (by rfl) h27 ⟨wr.heap.size, 0, none⟩ 1 1 (sc (kyS c)) (by rfl) rfl n30 (sc_one _) (by decide) (by unfold maxLen; omega) (by omega) (by have := (hY).size; omega) (Y8).heap.size rfl ?_
            intro g9 cap9 w9 hown9 hgr9 hat9 hlt9
            have hb9 : Below wr.heap.size wr w9 := (hY).grown hgr9 (by have := (hY).size; omega) (fun q hq => (World.ownsRow.lt h27 q hq).1)
            have own9 : w9.ownsRow wr.heap.size 79 3 (.slice (some ⟨g9, 0, none⟩) (p.length + 1) cap9) (p ++ [(kyS c)]).length ((p ++ [(kyS c)]).flatMap sc) := by rw [List.flatMap_append, List.length_append]; simpa using hown9
            have IN9 := hid (own_inp own9 (fun s hs => (List.mem_append.1 hs).elim (fun h => HKEY.out s h) (fun h => by rw [List.mem_singleton.1 h]; exact hcs)))
            have HB9 := hid hb9
            refine hKK.out _ _ (vonto GT.out.bel hb9) (fun _ => ?_)
            clear hKK KK hown9 hgr9 hat9 own9
            refine step_h (i := 19) rfl (by kernel_rfl) ?_
            intro KK hKK
            go_simp
            have CA := hid (HIH.out t _ _ (p ++ [(kyS c)]) _ w9 (by omega) hpt (HVT.out.onto (vonto GT.out.bel HB9.out)) IN9.out (by rw [List.length_append, List.length_singleton]; omega))
            simp only [vv] at CA
            go_wp2_with (go_at_call 32; go_must (refine CA.out.mono ?_; rintro e wz ⟨ur, E', rfl, got', hmap'⟩))
            have hbz := vonto HB9.out got'.bel
            have hE0 : 0 < E'.length := by have := congrArg List.length hmap'; rw [List.length_map] at this; rw [this]; exact allT_ne _ _
            have hEl : E'.length ≤ 100000 := by have := congrArg List.length hmap'; rw [List.length_map] at this; rw [this]; have := allT_len t (p ++ [(kyS c)]); omega
            obtain ⟨gr, cr, rfl, -, -, -⟩ := own_at5 got'.row hE0
            refine hKK.out _ _ (vonto GT.out.bel hbz) (fun _ => ?_)
            clear hKK KK
            have gz := GT.out.onto hbz
            refine step_h (i := 20) rfl (by kernel_rfl) ?_
            intro KK hKK
            refine step_append_lies _ (by rfl) _ _ _ (by rfl) W1.heap.size 41 i2 (.slice none 0 0) 1 24 Tryz.underlying60 hj' hy0' hy1' hy2' rfl (by decide) _ E.length _ (by rfl) gz.row ⟨gr, 0, none⟩ E'.length cr (E'.map (·.2)) (by rfl) (by simp) (got'.row.cells rfl) (ones_of got'.els) hE0 (by unfold maxLen; omega) (by omega) (by have := gz.bel.size; omega) wz.heap.size rfl ?_
            intro ga capa wa howna hgra hata hlta
            have gta := gz.more (fun e he => (got'.els e he).mono (by have := (vonto GT.out.bel HB9.out).size; omega)) howna hgra
            have GTA := hid gta
            have HMA : Hid ((E ++ E').map (·.1) = p :: (allL T.ls 0 p ++ allM (T.vs.take (j + 1)) T.ks p)) := hid (by rw [List.map_append, HM.out, hmap']; rw [List.take_add_one, ht]; simp only [Option.toList_some]; rw [allM_snoc t p (T.vs.take j) T.ks c (by rw [List.length_take, Nat.min_eq_left (by omega)]; exact hc)]; simp)
            refine hKK.out _ _ gta.bel (fun hSa => ?_)
            clear hKK KK howna hgra hata hlta gta gz
            simp only [Act.put, List.setIfInBounds_toArray, List.set_cons_zero, List.set_cons_succ]
            refine take_h (i := 21) (v := ?_) rfl (by kernel_rfl) (by kernel_rfl) (by kernel_rfl) (fun _ _ _ h => h) (by rfl) ?_ hSa ?_
            rotate_left
            · (intro X hX; go_simp; try with_reducible rfl)
            simp only [Act.put, List.setIfInBounds_toArray, List.set_cons_zero, List.set_cons_succ]
            refine wpAnyH_done (by kernel_rfl) ?_ _
            go_wp2_with fail
            go_roundw
            case rel => exact ⟨j + 1, E ++ E', val_int (by omega), hlt, GTA, HMA⟩
            case measure => simp [intOf]; omega
        · have HMF := hid (show E.map (·.1) = allT T p by rw [HM.out, List.take_of_length_le (by omega), ← allA_eq HPL.out]; rfl)
          have hle : w.heap.size ≤ W1.heap.size := by omega
          clear HM
          go_wp2_with fail
          go_ret
          exact ⟨_, E, rfl, ⟨GT.out.row.mono hle, fun e he => (GT.out.els e he).mono hle, vonto HAL.out GT.out.bel⟩, HMF.out⟩
end Go.Proofs.YtjffhjdjoankcaaGreatDoor
