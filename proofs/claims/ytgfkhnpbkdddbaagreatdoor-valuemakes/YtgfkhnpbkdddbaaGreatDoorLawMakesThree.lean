/- ValueMakes, walked over what its callees answer. -/
import Derived.Test.YtgfkhnpbkdddbaaGreatDoorMathWith
import Derived.Test.YtgfkhnpbkdddbaaGreatDoorRefVal4
import Derived.Test.YtgfkhnpbkdddbaaGreatDoorRefVal5
import Derived.Test.YtgfkhnpbkdddbaaGreatDoorRefVal7
import Derived.Test.YtgfkhnpbkdddbaaGreatDoorRefDec
import Derived.Test.YtgfkhnpbkdddbaaGreatDoorVMap
import Derived.Test.YtgfkhnpbkdddbaaGreatDoorVGood
import Derived.Test.YtgfkhnpbkdddbaaGreatDoorVLike
import Derived.Test.YtgfkhnpbkdddbaaGreatDoorVAwaken
import Derived.Deep.DeepCutAuto
import Derived.Deep.CutBlock
import Derived.Deep.RegionHeld
namespace Go.Proofs.YtgfkhnpbkdddbaaGreatDoor
open Go.RowKit

/-- strings that are handed in -/
def InS (w : World) (ks : List ByteArray) (v : Value) : Prop := ∃ (a : Addr), SlOf v a ks.length ∧ ∀ i c, ks[i]? = some c → w.cell? (a.add i) = some (.string c) ∧ c.size ≤ maxLen
theorem InS.onto {w w' : World} {ks : List ByteArray} {v : Value} (h : InS w ks v) (hb : Below w.heap.size w w') : InS w' ks v := by
  obtain ⟨a, h1, h2⟩ := h
  exact ⟨a, h1, fun i c hc => ⟨keepCell hb (h2 i c hc).1, (h2 i c hc).2⟩⟩
/-- a leaf in two boxes -/
theorem leaf_same (k n : Int) (s : ByteArray) : sameT false (leafT k n s) (leafT k n s) = true := like_self _
theorem rv_te (s : ByteArray) : (0 ≤ rvI s.data.toList ↔ teI s = 3) ∧ (teI s = 2 → 4096 < s.size) ∧ (teI s = 0 → s.size ≤ 4096) := by
  unfold teI rvI
  rw [size_list]
  by_cases h1 : pos s.data.toList (vlk s.data.toList) = s.size
  · rw [if_pos h1, if_pos h1]
    by_cases h2 : s.size > 4096
    · rw [if_pos h2]; exact ⟨by simp, fun _ => h2, fun h => by simp at h⟩
    · rw [if_neg h2]; exact ⟨by simp, fun h => by simp at h, fun _ => by omega⟩
  · rw [if_neg h1, if_neg h1]; exact ⟨by simp, fun h => by simp at h, fun h => by simp at h⟩
/-- where the law is, behind so many keys -/
structure MkSt (w wr : World) (bw : Nat) (n : Int) (ks : List ByteArray) (j : Nat) (P : List (ByteArray × VT)) (mv wv : Value) (EW : List (ByteArray × VT × Value × Value)) : Prop where
  mrow : wr.ownsRow (bw + 1) 42 6 mv j (((ks.take j).map fun c => (c, leafT 2 n ⟨#[]⟩, Value.slice none 0 0, Value.slice none 0 0)).flatMap pc)
  mnil : j = 0 → mv = .slice none 0 0
  box : Bx5 wr bw (.int .i64 6) (.int .i64 0) (.string ⟨#[]⟩) (.slice none 0 0) wv
  row : Row wr bw 28 5
  wrow : wr.ownsRow (bw + 1) 42 6 wv EW.length (EW.flatMap pc)
  prs_eq : prs EW = P
  ents : ∀ e ∈ EW, e.1.size ≤ maxLen ∧ HV wr e.2.1 e.2.2.1 e.2.2.2
  apart : ∀ g, mv.ownBlock = some g → ¬ wv.ownBlock = some g
  bel : Below w.heap.size w wr
  low : w.heap.size ≤ bw
theorem MkSt.tree {w wr : World} {bw : Nat} {n : Int} {ks : List ByteArray} {j : Nat} {P : List (ByteArray × VT)} {mv wv : Value} {EW : List (ByteArray × VT × Value × Value)} (h : MkSt w wr bw n ks j P mv wv EW) : HV wr (.mk 6 0 ⟨#[]⟩ [] (EW.map (·.1)) (EW.map (·.2.1))) (.slice none 0 0) wv :=
  hv_in list_wf.2.1 list_wf.2.2 (by decide) (lf_nil wr 0 0).inL (own_in h.wrow h.ents)
theorem MkSt.onto {w wr w2 : World} {bw : Nat} {n : Int} {ks : List ByteArray} {j : Nat} {P : List (ByteArray × VT)} {mv wv : Value} {EW : List (ByteArray × VT × Value × Value)} (h : MkSt w wr bw n ks j P mv wv EW) (hb : Below wr.heap.size wr w2) : MkSt w w2 bw n ks j P mv wv EW :=
  ⟨ownsRow_below h.mrow hb, h.mnil, h.box.same (hb.block _ h.row.lt), h.row.onto (hb.block _ h.row.lt), ownsRow_below h.wrow hb, h.prs_eq, fun e he => ⟨(h.ents e he).1, (h.ents e he).2.onto hb⟩, h.apart, vonto h.bel hb, h.low⟩
theorem leaf_any {w w' : World} {k n : Int} {s : ByteArray} {x y : Value} (h : HV w (leafT k n s) x y) : HV w' (leafT k n s) x y := by
  unfold leafT at h ⊢
  cases h with
  | mk a b f g p q hk hn hs hL hM hK cL cK cM rL rM =>
    exact .mk a b f g p q hk hn hs hL hM hK (fun i t h => by simp at h) (fun i t h => by simp at h) (fun i t h => by simp at h) (fun i t h => by simp at h) (fun i t h => by simp at h)
theorem ents_leaf {EE : List (ByteArray × VT × Value × Value)} {P : List (ByteArray × VT)} {x : VT} (hP : prs EE = P) (h : ∀ a ∈ P, a.2 = x) : ∀ e ∈ EE, e.2.1 = x := fun e he => h (e.1, e.2.1) (by rw [← hP]; exact List.mem_map.2 ⟨e, he, rfl⟩)
theorem own_set {w : World} {base : Nat} {ty : TypeId} {k n : Nat} {v : Value} {xs : List Value} (h : w.ownsRow base ty k v n xs) (b o : Nat) (u : Value) (hb : b < base) : (w.setCell ⟨b, o, none⟩ u).ownsRow base ty k v n xs := by
  refine h.kept (set_grown w b o u) ?_
  cases hv : v.ownBlock with
  | none => exact Or.inl rfl
  | some g => have := h.lt g hv; exact Or.inr (fun e => by injection e with e; omega)
theorem own_put5 {w : World} {base : Nat} {ty : TypeId} {k n : Nat} {v : Value} {xs : List Value} (h : w.ownsRow base ty k v n xs) (b o : Nat) (v0 v1 v2 v3 v4 : Value) (hb : b < base) : (put5 w b o v0 v1 v2 v3 v4).ownsRow base ty k v n xs := by
  unfold put5
  exact own_set (own_set (own_set (own_set (own_set h _ _ _ hb) _ _ _ hb) _ _ _ hb) _ _ _ hb) _ _ _ hb
theorem own_base {w : World} {base base' : Nat} {ty : TypeId} {k n : Nat} {v : Value} {xs : List Value} (h : w.ownsRow base ty k v n xs) (hb : base' ≤ base) : w.ownsRow base' ty k v n xs := by
  refine ⟨h.1, ?_⟩
  rcases h.2 with h1 | ⟨g, cap, cur, h1, h2, h3⟩
  · exact Or.inl h1
  · exact Or.inr ⟨g, cap, cur, h1, Nat.le_trans hb h2, h3⟩
theorem MkSt.put {w wc w3 : World} {bw : Nat} {n : Int} {ks : List ByteArray} {j : Nat} {P P' : List (ByteArray × VT)} {mv wv wv' : Value} {EW EE : List (ByteArray × VT × Value × Value)} (h : MkSt w wc bw n ks j P mv wv EW) (hb : Below wc.heap.size wc w3)
    (hrow : w3.ownsRow (wc.heap.size + 4) 42 6 wv' EE.length (EE.flatMap pc)) (hE : ∀ e ∈ EE, e.1.size ≤ maxLen ∧ HV w3 e.2.1 e.2.2.1 e.2.2.2) (hP : prs EE = P') (hX : ∀ e ∈ EE, e.2.1 = leafT 2 n ⟨#[]⟩) :
    MkSt w (put5 w3 bw 0 (.int .i64 6) (.int .i64 0) (.string ⟨#[]⟩) (.slice none 0 0) wv') bw n ks j P' mv wv' EE := by
  have hlt := h.row.lt
  have hs := hb.size
  have hr := h.row.onto (hb.block _ hlt)
  have hge : w.heap.size ≤ bw ∨ bw < w.heap.size := by omega
  refine ⟨own_put5 (ownsRow_below h.mrow hb) _ _ _ _ _ _ _ (by omega), h.mnil, put5_node hr 0 (by omega) (.mk 6 0 ⟨#[]⟩ [] [] []) _ _, put5_row hr _ _ _ _ _ _ _, own_put5 (own_base hrow (by omega)) _ _ _ _ _ _ _ (by omega), hP, fun e he => ⟨(hE e he).1, ?_⟩, fun g hg hg' => ?_, ?_, h.low⟩
  · have h1 := (hE e he).2
    rw [hX e he] at h1 ⊢
    exact leaf_any h1
  · have h1 := h.mrow.lt g hg
    have h2 := hrow.lt g hg'
    omega
  · unfold put5
    have hbw : w.heap.size ≤ bw := h.low
    exact vset_bel (vset_bel (vset_bel (vset_bel (vset_bel (vonto h.bel hb) hbw) hbw) hbw) hbw) hbw
theorem MkSt.more {w w4 w5 w9 : World} {bw : Nat} {n : Int} {ks : List ByteArray} {j : Nat} {P : List (ByteArray × VT)} {mv wv : Value} {EW : List (ByteArray × VT × Value × Value)} {ck : ByteArray} {O : Obj} {g cap : Nat} (h : MkSt w w4 bw n ks j P mv wv EW) (hc : ks[j]? = some ck) (hb : Below w4.heap.size w4 w5)
    (hgr : (w5.alloc O).grownBy w9 mv.ownBlock) (hat : mv.ownBlock = some g ∨ g = w5.heap.size + 1) (hown : w9.ownsRow (bw + 1) 42 6 (.slice (some ⟨g, 0, none⟩) (j + 1) cap) (j + 1) (((ks.take j).map fun c => (c, leafT 2 n ⟨#[]⟩, Value.slice none 0 0, Value.slice none 0 0)).flatMap pc ++ pc (ck, leafT 2 n ⟨#[]⟩, .slice none 0 0, .slice none 0 0)))
    (hX : ∀ e ∈ EW, e.2.1 = leafT 2 n ⟨#[]⟩) : MkSt w w9 bw n ks (j + 1) P (.slice (some ⟨g, 0, none⟩) (j + 1) cap) wv EW := by
  have hlt := h.row.lt
  have hs := hb.size
  have hk : Below (bw + 1) w4 w9 := ((hb.mono (by omega)).alloc (by omega) O).grown hgr (by simp; omega) (fun q hq => (h.mrow.lt q hq).1)
  refine ⟨?_, fun h0 => absurd h0 (by omega), h.box.same (hk.block _ (by omega)), h.row.onto (hk.block _ (by omega)), ((ownsRow_below h.wrow hb).alloc O).kept hgr ?_, h.prs_eq, fun e he => ⟨(h.ents e he).1, ?_⟩, fun q hq hq' => ?_, h.bel.trans (hk.mono (Nat.le_succ_of_le h.low)), h.low⟩
  · rw [List.take_add_one, hc]
    simp only [Option.toList_some, List.map_append, List.flatMap_append, List.map_cons, List.map_nil, List.flatMap_cons, List.flatMap_nil, List.append_nil]
    exact hown
  · cases hv : wv.ownBlock with
    | none => exact Or.inl rfl
    | some q => exact Or.inr (fun e => h.apart q e.symm hv)
  · have h1 := (h.ents e he).2
    rw [hX e he] at h1 ⊢
    exact leaf_any h1
  · have hgq : g = q := by simpa [Value.ownBlock] using hq
    subst hgq
    rcases hat with h2 | h2
    · exact h.apart g h2 hq'
    · have := h.wrow.lt g hq'; omega
theorem map_law {W : World} {base : Nat} {m : Value} {ks : List ByteArray} {n : Int} (hown : W.ownsRow base 42 6 m ks.length (((ks.take ks.length).map fun c => (c, leafT 2 n ⟨#[]⟩, Value.slice none 0 0, Value.slice none 0 0)).flatMap pc)) (hnil : ks.length = 0 → m = .slice none 0 0) (hl : ks.length ≤ 20) (hks : ∀ c ∈ ks, c.size ≤ maxLen) (hn : (Lit.int .i64 n).wf = true) :
    Calls Tryz.prog 25 #[m] W fun e w' => ∃ (A' : List (ByteArray × VT)) (o : Option Addr) (n1 c : Nat) (o' : Option Addr) (n' c' : Nat), A'.Perm (ks.map fun c => (c, leafT 2 n ⟨#[]⟩)) ∧ Rising A' ∧ e = .returned (.tuple #[.agg #[.int .i64 (mapR A').kd, .int .i64 (mapR A').nm, .string (mapR A').st, .slice o n1 c, .slice o' n' c'], .int .i64 (keI (A'.map (·.1)))]) ∧ HV w' (mapR A') (.slice o n1 c) (.slice o' n' c') ∧ Below W.heap.size W w' := by
  rw [List.take_length] at hown
  by_cases h0 : ks.length = 0
  · have hk0 : ks = [] := List.eq_nil_of_length_eq_zero h0
    subst hk0
    obtain rfl := hnil rfl
    refine (vmap_nil W).mono ?_
    rintro e w' ⟨X, Y, rfl, hf, hb⟩
    obtain ⟨o, n1, c, o', n', c', rfl, rfl⟩ := hv_slices hf.hv
    exact ⟨[], o, n1, c, o', n', c', List.Perm.refl _, fun i j a b _ ha => by simp at ha, rfl, hf.hv, hb⟩
  · obtain ⟨g, cap, rfl, -, -⟩ := hown.form (by omega)
    have hin := own_in (A := ks.map fun c => (c, leafT 2 n ⟨#[]⟩, Value.slice none 0 0, Value.slice none 0 0)) (by rw [List.length_map]; exact hown) (fun a ha => by
      obtain ⟨c, hc, rfl⟩ := List.mem_map.1 ha
      exact ⟨hks c hc, hv_leaf W _ _ _ (by decide) hn (by decide)⟩)
    have e1 : (ks.map fun c => (c, leafT 2 n ⟨#[]⟩, Value.slice none 0 0, Value.slice none 0 0)).map (·.1) = (ks.map fun c => (c, leafT 2 n ⟨#[]⟩)).map (·.1) := by rw [List.map_map, List.map_map]; rfl
    have e2 : (ks.map fun c => (c, leafT 2 n ⟨#[]⟩, Value.slice none 0 0, Value.slice none 0 0)).map (·.2.1) = (ks.map fun c => (c, leafT 2 n ⟨#[]⟩)).map (·.2) := by rw [List.map_map, List.map_map]; rfl
    rw [e1, e2] at hin
    have e3 : (ks.map fun c => (c, leafT 2 n ⟨#[]⟩)).length = ks.length := List.length_map _
    have hsz : szL ((ks.map fun c => (c, leafT 2 n ⟨#[]⟩)).map (·.2)) ≤ 999999 := by
      have : ∀ l : List ByteArray, szL ((l.map fun c => (c, leafT 2 n ⟨#[]⟩)).map (·.2)) = l.length := by
        intro l
        induction l with
        | nil => rfl
        | cons a r ih => rw [List.map_cons, List.map_cons, szL, ih]; simp only [leafT, szT, szL, List.length_cons]; omega
      rw [this]; omega
    have hM := vmap_any (ks.map fun c => (c, leafT 2 n ⟨#[]⟩)) W g 0 cap (by rw [e3]; exact hin) (by rw [e3]; omega) hsz
    rw [e3] at hM
    refine hM.mono ?_
    rintro e w' ⟨A', X, Y, hp, hr, rfl, hf, hb⟩
    obtain ⟨o, n1, c, o', n', c', rfl, rfl⟩ := hv_slices hf.hv
    exact ⟨A', o, n1, c, o', n', c', hp, hr, rfl, hf.hv, hb⟩
theorem vint_law (n : Int) (X : World) : Calls Tryz.prog 24 #[.int .i64 n] X fun e w' => e = .returned (.agg #[.int .i64 2, .int .i64 n, .string ⟨#[]⟩, .slice none 0 0, .slice none 0 0]) ∧ Below X.heap.size X w' := vint_any n X
theorem get_law {W : World} {EW : List (ByteArray × VT × Value × Value)} {wv : Value} (ck : ByteArray) (P : List (ByteArray × VT)) (hP : prs EW = P) (hT : HV W (.mk 6 0 ⟨#[]⟩ [] (EW.map (·.1)) (EW.map (·.2.1))) (.slice none 0 0) wv) :
    Calls Tryz.prog 22 #[.agg #[.int .i64 6, .int .i64 0, .string ⟨#[]⟩, .slice none 0 0, wv], .string ck] W fun e w' => ∃ (r1 r2 : Int) (r3 : ByteArray) (o : Option Addr) (n c : Nat) (o' : Option Addr) (n' c' : Nat), e = .returned (.tuple #[.agg #[.int .i64 r1, .int .i64 r2, .string r3, .slice o n c, .slice o' n' c'], .bool (findK ck (P.map (·.1)) (P.map (·.2))).isSome]) ∧ Below W.heap.size W w' := by
  refine (get_any _ _ _ ck W hT).mono ?_
  rintro e w' ⟨R, X', Y', rfl, hR, hf, hb'⟩
  have e1 : EW.map (·.1) = P.map (·.1) := by rw [← hP]; unfold prs; rw [List.map_map]; rfl
  have e2 : EW.map (·.2.1) = P.map (·.2) := by rw [← hP]; unfold prs; rw [List.map_map]; rfl
  have hg : getO (.mk 6 0 ⟨#[]⟩ [] (EW.map (·.1)) (EW.map (·.2.1))) ck = findK ck (P.map (·.1)) (P.map (·.2)) := by
    unfold getO
    rw [if_pos (show VT.kd _ = 6 from rfl), ← e1, ← e2]; rfl
  rw [hg]
  obtain ⟨o, n, c, o', n', c', rfl, rfl⟩ := hv_slices hf
  exact ⟨_, _, _, o, n, c, o', n', c', rfl, hb'⟩
theorem with_old {A EE EW : List (ByteArray × VT × Value × Value)} {P : List (ByteArray × VT)} {key : ByteArray} {U : VT} {x' y' : Value} (h1 : A.map (·.1) = EW.map (·.1)) (h2 : A.map (·.2.1) = EW.map (·.2.1)) (hE : EE = withL key U x' y' A) (hP : prs EW = P) : prs EE = insP key U false P := by
  have e : prs A = prs EW := by
    unfold prs
    apply List.ext_getElem?
    intro i
    have g1 := congrArg (fun l => l[i]?) h1
    have g2 := congrArg (fun l => l[i]?) h2
    simp only [List.getElem?_map] at g1 g2 ⊢
    cases ha : A[i]? <;> cases hb : EW[i]? <;> simp [ha, hb] at g1 g2 ⊢
    exact ⟨g1, g2⟩
  rw [hE, with_prs, e, hP]
theorem num_hv (s : ByteArray) (w : World) (hs : s.size ≤ maxLen) : HV w (numR s) (.slice none 0 0) (.slice none 0 0) := by
  unfold numR
  split
  · split
    · exact hv_leaf w _ _ _ (by decide) (intV_wf _) (by decide)
    · exact hv_leaf w _ _ _ (by decide) (by decide) hs
  · exact hv_zero w
theorem num_leaf (s : ByteArray) (h : numB s.data.toList = true) : numR s = if intB s.data.toList then leafT 2 (intV s.data.toList) ⟨#[]⟩ else leafT 3 0 s := by unfold numR; rw [if_pos h]
set_option maxRecDepth 100000 in
set_option maxHeartbeats 8000000 in
theorem makes_of (AW : ∀ w, Glob w → Calls Tryz.prog 13 #[] w fun e w' => e = .returned (.bool true) ∧ Below w.heap.size w w')
    (s : ByteArray) (ks : List ByteArray) (kv : Value) (n : Int) (w : World) (hg : Glob w) (hs : s.size ≤ maxLen) (hn : (Lit.int .i64 n).wf = true) (hks : InS w ks kv) :
    Calls Tryz.prog 3 #[.string s, kv, .int .i64 n] w fun e w' => e = .returned (.bool true) ∧ Below w.heap.size w w' := by
  have HAW := hid AW
  have HG := hid hg
  have HS := hid hs
  have HN := hid hn
  have HKS := hid hks
  clear AW hg hn
  obtain ⟨ka, ⟨ko, kcap, rfl, hk1, hk2, hk3⟩, hkc⟩ := hks
  have HKC := hid hkc
  clear hkc
  unfold maxLen at hk2 hs
  by_cases hs5 : s.size > 5000
  · go_enter Tryz.func3, Tryz.ntmps3
    go_wp2_with (go_at_call 13; go_must (refine (HAW.out _ HG.out).mono ?_; rintro e wa ⟨rfl, hba⟩))
    go_ret
    exact ⟨rfl, hba⟩
  by_cases hl20 : ks.length > 20
  · go_enter Tryz.func3, Tryz.ntmps3
    go_wp2_with (go_at_call 13; go_must (refine (HAW.out _ HG.out).mono ?_; rintro e wa ⟨rfl, hba⟩))
    go_ret
    exact ⟨rfl, hba⟩
  have hs6 : s.size ≤ 5000 := by omega
  have hl : ks.length ≤ 20 := by omega
  go_enter Tryz.func3, Tryz.ntmps3
  go_wp2_with fail
  go_at_call 13
  refine (HAW.out _ HG.out).mono ?_
  rintro e wa ⟨rfl, hba⟩
  have HBA := hid hba
  have HGA := hid (HG.out.on hba)
  have HNU := hid (vnum_any s wa HGA.out HS.out)
  simp only [vv] at HNU
  obtain ⟨bi, hbi⟩ : ∃ b, intB s.data.toList = b := ⟨_, rfl⟩
  obtain ⟨iv, hiv⟩ : ∃ b, intV s.data.toList = b := ⟨_, rfl⟩
  obtain ⟨ze, hze⟩ : ∃ b, numE s = b := ⟨_, rfl⟩
  obtain ⟨NT, hNT⟩ : ∃ b, numR s = b := ⟨_, rfl⟩
  have HIN : Hid (∀ X, Calls Tryz.prog 15 #[.string s] X fun e w' => e = .returned (.tuple #[.int .i64 iv, .bool bi]) ∧ w' = X) := by
    intro X; rw [← hbi, ← hiv]; exact int_any s X HS.out
  rw [hze, hNT] at HNU
  have HBI := hid hbi
  have HIV := hid hiv
  have HZE := hid hze
  have HNT := hid hNT
  clear hbi hiv hze hNT
  clear hba HAW
  go_upto_region 8 with ((first
    | (go_at_call 14; go_must (refine HNU.out.mono ?_; rintro e w1 ⟨rfl, hb1⟩))
    | (go_at_call 15; go_must (refine (HIN.out _).mono ?_; rintro e w2 ⟨rfl, hw2⟩; obtain rfl := hw2))))
  have HB1 := hid (vonto HBA.out hb1)
  clear hb1 HNU
  obtain ⟨W2, hW2⟩ : ∃ W, W = (w1.alloc (.cells #[.int .i64 NT.kd, .int .i64 NT.nm, .string NT.st, .slice none 0 0, .slice none 0 0] 28)).alloc (.cells #[.int .i64 3, .int .i64 0, .string s, .slice none 0 0, .slice none 0 0] 28) := ⟨_, rfl⟩
  have HX2 : Hid (Bx5 W2 w1.heap.size (.int .i64 NT.kd) (.int .i64 NT.nm) (.string NT.st) (.slice none 0 0) (.slice none 0 0)) := by
    rw [hW2]
    exact Bx5.same (w := w1.alloc _) ⟨by simp, by simp, by simp, by simp, by simp⟩ (Below.heap_alloc _ _ _ (by simp))
  have HT2 : Hid (Bx5 W2 (w1.heap.size + 1) (.int .i64 3) (.int .i64 0) (.string s) (.slice none 0 0) (.slice none 0 0)) := by
    rw [hW2]
    generalize hA : w1.alloc (.cells #[.int .i64 NT.kd, .int .i64 NT.nm, .string NT.st, .slice none 0 0, .slice none 0 0] 28) = A
    have : w1.heap.size + 1 = A.heap.size := by rw [← hA, World.size_alloc]
    rw [this]
    exact ⟨by simp, by simp, by simp, by simp, by simp⟩
  have HR2 : Hid (Row W2 (w1.heap.size + 1) 28 5) := by
    have := Row.new (w1.alloc (.cells #[.int .i64 NT.kd, .int .i64 NT.nm, .string NT.st, .slice none 0 0, .slice none 0 0] 28)) #[.int .i64 3, .int .i64 0, .string s, .slice none 0 0, .slice none 0 0] 28
    rw [← hW2, World.size_alloc] at this
    exact this
  have HB2 : Hid (Below w.heap.size w W2) := by rw [hW2]; exact valloc_bel (valloc_bel HB1.out _) _
  have hsz2 : w1.heap.size + 1 < W2.heap.size := HR2.out.lt
  have hge := HB1.out.size
  rw [← hW2]
  clear hW2 HB1
  go_upto_if 47 with fail
  go_cut [] (fun wx => ∃ T' : VT, Hid (T' = if bi then leafT 2 iv ⟨#[]⟩ else leafT 3 0 s) ∧ Hid (Bx5 wx (w1.heap.size + 1) (.int .i64 T'.kd) (.int .i64 T'.nm) (.string T'.st) (.slice none 0 0) (.slice none 0 0)) ∧ Hid (Bx5 wx w1.heap.size (.int .i64 NT.kd) (.int .i64 NT.nm) (.string NT.st) (.slice none 0 0) (.slice none 0 0)) ∧ Hid (Below w.heap.size w wx) ∧ Hid (w1.heap.size + 1 < wx.heap.size))
  case first =>
    as_aux_lemma =>
    obtain ⟨t0, t1, t2, t3, t4⟩ := HT2.out
    have zf := HR2.out.frozen
    cases bi with
    | true =>
      go_wp2_with fail
      go_meet
      refine ⟨leafT 2 iv ⟨#[]⟩, rfl, ?_, HX2.out.same (put5_heap W2 (w1.heap.size + 1) 0 (.int .i64 2) (.int .i64 iv) (.string ⟨#[]⟩) (.slice none 0 0) (.slice none 0 0) _ (by omega)), vset_bel (vset_bel (vset_bel (vset_bel (vset_bel HB2.out (by simp <;> omega)) (by simp <;> omega)) (by simp <;> omega)) (by simp <;> omega)) (by simp <;> omega), by simp; exact hsz2⟩
      exact put5_node HR2.out 0 (by omega) (leafT 2 iv ⟨#[]⟩) (.slice none 0 0) (.slice none 0 0)
    | false =>
      go_wp2_with fail
      go_meet
      exact ⟨leafT 3 0 s, rfl, HT2, HX2, HB2, hsz2⟩
  case rest =>
  obtain ⟨T', HTE, HT3, HX3, HB3, HZ3⟩ := hcut
  clear HT2 HX2 HR2 HB2 hsz2
  go_upto_region 10 with fail
  go_cut [72] (fun v wx => v = .bool false ∧ Hid (Below w.heap.size w wx))
  case first =>
    as_aux_lemma =>
    have HNM : Hid (∀ X, Calls Tryz.prog 16 #[.string s] X fun e w' => e = .returned (.bool (numB s.data.toList)) ∧ w' = X) := fun X => number_any s X HS.out
    obtain ⟨t0, t1, t2, t3, t4⟩ := HT3.out
    obtain ⟨x0, x1, x2, x3, x4⟩ := HX3.out
    cases hnb : numB s.data.toList with
    | true =>
      have hz0 : ze = 0 := by rw [← HZE.out]; unfold numE; rw [if_pos hnb]
      have tz : (ze == 0) = true := by rw [hz0]; rfl
      have tz2 : (ze != 0) = false := by rw [hz0]; rfl
      have hTN : T' = NT := by rw [HTE.out, ← HNT.out, num_leaf s hnb, ← HBI.out, ← HIV.out]
      rw [hnb] at HNM
      have HSM := hid (same_any (szT NT) NT T' (.slice none 0 0) (.slice none 0 0) (.slice none 0 0) (.slice none 0 0) false wc (Nat.le_refl _) (by rw [← HNT.out]; exact num_hv s wc HS.out) (by rw [hTN, ← HNT.out]; exact num_hv s wc HS.out))
      rw [hTN, like_self] at HSM
      rw [hTN] at t0 t1 t2
      simp only [vv] at HSM
      clear hz0 hTN hnb
      go_wp2_with ((first
        | (go_at_call 16; go_must (refine (HNM.out _).mono ?_; rintro e w5 ⟨rfl, hw5⟩; obtain rfl := hw5.symm))
        | (go_at_call 17; go_must (refine HSM.out.mono ?_; rintro e w6 ⟨rfl, hb6⟩))))
      go_meet
      exact ⟨rfl, vonto HB3.out hb6⟩
    | false =>
      have hz0 : ze = 1 := by rw [← HZE.out]; unfold numE; rw [if_neg (by rw [hnb]; decide)]
      have tz : (ze == 0) = false := by rw [hz0]; rfl
      have tz2 : (ze != 0) = true := by rw [hz0]; rfl
      have tz3 : (ze != 1) = false := by rw [hz0]; rfl
      rw [hnb] at HNM
      clear hz0 hnb
      go_wp2_with (go_at_call 16; go_must (refine (HNM.out _).mono ?_; rintro e w5 ⟨rfl, hw5⟩; obtain rfl := hw5.symm))
      go_meet
      exact ⟨rfl, HB3.out⟩
  case rest =>
  obtain ⟨rfl, HB4⟩ := hcut
  clear HT3 HX3 HB3 HZ3 HTE HNT HZE HBI HIV HIN
  obtain ⟨zt, hzt⟩ : ∃ b, teI s = b := ⟨_, rfl⟩
  obtain ⟨ST, hST⟩ : ∃ b, strR s = b := ⟨_, rfl⟩
  have HSTR : Hid (∀ X, Calls Tryz.prog 18 #[.string s] X fun e w' => e = .returned (.tuple #[.agg #[.int .i64 ST.kd, .int .i64 ST.nm, .string ST.st, .slice none 0 0, .slice none 0 0], .int .i64 zt]) ∧ Below X.heap.size X w') := by
    intro X; rw [← hzt, ← hST]; exact vstr_any s X HS.out
  have HZT := hid hzt
  have HSTT := hid hST
  clear hzt hST
  go_upto_block 0 with (go_at_call 18; go_must (refine (HSTR.out _).mono ?_; rintro e w5 ⟨rfl, hb5⟩))
  have HB5 := hid (valloc_bel (vonto HB4.out hb5) (.cells #[.int .i64 ST.kd, .int .i64 ST.nm, .string ST.st, .slice none 0 0, .slice none 0 0] 28))
  have HY5 : Hid (Bx5 (w5.alloc (.cells #[.int .i64 ST.kd, .int .i64 ST.nm, .string ST.st, .slice none 0 0, .slice none 0 0] 28)) w5.heap.size (.int .i64 ST.kd) (.int .i64 ST.nm) (.string ST.st) (.slice none 0 0) (.slice none 0 0)) := ⟨by simp, by simp, by simp, by simp, by simp⟩
  clear hb5 HB4 HSTR
  obtain ⟨W5, hW5⟩ : ∃ W, W = w5.alloc (.cells #[.int .i64 ST.kd, .int .i64 ST.nm, .string ST.st, .slice none 0 0, .slice none 0 0] 28) := ⟨_, rfl⟩
  rw [← hW5] at HB5 HY5 ⊢
  clear hW5
  go_cut [] (fun wx => Hid (Below w.heap.size w wx))
  case first =>
    as_aux_lemma =>
    obtain ⟨y0, y1, y2, y3, y4⟩ := HY5.out
    have HVA := hid (rvalid_any s W5 HS.out)
    obtain ⟨hv3, hv2, hv0⟩ := rv_te s
    rw [HZT.out] at hv3 hv2 hv0
    obtain ⟨rv, hrv⟩ : ∃ b, rvI s.data.toList = b := ⟨_, rfl⟩
    rw [hrv] at HVA hv3
    clear hrv
    have h3 : zt = 0 ∨ zt = 2 ∨ zt = 3 := by rw [← HZT.out]; exact te_three s
    rcases h3 with h | h | h
    · have hr : ¬ 0 ≤ rv := fun hh => by have := hv3.1 hh; omega
      have hl4 := hv0 h
      have tz : (zt != 0) = false := by rw [h]; rfl
      have hST : ST = leafT 4 0 s := by rw [← HSTT.out]; unfold strR; rw [HZT.out, if_pos h]
      rw [hST] at y0 y1 y2
      clear hv3 hv2 hv0 h hST
      go_wp2_with fail
      go_at_call 19
      refine HVA.out.mono ?_
      rintro e w6 ⟨rfl, hb6⟩
      have z0 := keepCell hb6 y0; have z1 := keepCell hb6 y1; have z2 := keepCell hb6 y2; have z3 := keepCell hb6 y3; have z4 := keepCell hb6 y4
      have HB6 := hid (vonto HB5.out hb6)
      have HSM := hid (same_any (szT (leafT 4 0 s)) (leafT 4 0 s) (leafT 4 0 s) (.slice none 0 0) (.slice none 0 0) (.slice none 0 0) (.slice none 0 0) false w6 (Nat.le_refl _) (hv_leaf w6 _ _ _ (by decide) (by decide) HS.out) (hv_leaf w6 _ _ _ (by decide) (by decide) HS.out))
      rw [like_self] at HSM
      simp only [vv, leafT, VT.kd, VT.nm, VT.st] at HSM z0 z1 z2
      clear y0 y1 y2 y3 y4 hb6
      go_wp2_with (go_at_call 17; go_must (refine HSM.out.mono ?_; rintro e w7 ⟨rfl, hb7⟩))
      go_meet
      exact vonto HB6.out hb7
    · have hr : ¬ 0 ≤ rv := fun hh => by have := hv3.1 hh; omega
      have hl4 := hv2 h
      have tz : (zt != 2) = false := by rw [h]; rfl
      clear hv3 hv2 hv0 h
      go_wp2_with (go_at_call 19; go_must (refine HVA.out.mono ?_; rintro e w6 ⟨rfl, hb6⟩))
      go_meet
      exact vonto HB5.out hb6
    · have hr : 0 ≤ rv := hv3.2 h
      have tz : (zt != 3) = false := by rw [h]; rfl
      clear hv3 hv2 hv0 h
      go_wp2_with (go_at_call 19; go_must (refine HVA.out.mono ?_; rintro e w6 ⟨rfl, hb6⟩))
      go_meet
      exact vonto HB5.out hb6
  case rest =>
  have HB6 := hcut
  clear HB5 HY5 HZT HSTT hcut
  obtain ⟨zs, hzs⟩ : ∃ b, stampE s = b := ⟨_, rfl⟩
  obtain ⟨PT, hPT⟩ : ∃ b, stampR s = b := ⟨_, rfl⟩
  have HSP : Hid (∀ X, Calls Tryz.prog 20 #[.string s] X fun e w' => e = .returned (.tuple #[.agg #[.int .i64 PT.kd, .int .i64 PT.nm, .string PT.st, .slice none 0 0, .slice none 0 0], .int .i64 zs]) ∧ Below X.heap.size X w') := by
    intro X; rw [← hzs, ← hPT]; exact vstamp_any s X HS.out
  have HZS := hid hzs
  have HPT := hid hPT
  clear hzs hPT
  go_upto_region 22 with (go_at_call 20; go_must (refine (HSP.out _).mono ?_; rintro e w7 ⟨rfl, hb7⟩))
  have HB7 := hid (valloc_bel (vonto HB6.out hb7) (.cells #[.int .i64 PT.kd, .int .i64 PT.nm, .string PT.st, .slice none 0 0, .slice none 0 0] 28))
  have q2 : (w7.alloc (.cells #[.int .i64 PT.kd, .int .i64 PT.nm, .string PT.st, .slice none 0 0, .slice none 0 0] 28)).cell? ⟨w7.heap.size, 2, none⟩ = some (.string PT.st) := by simp
  clear hb7 HB6 HSP
  obtain ⟨W7, hW7⟩ : ∃ W, W = w7.alloc (.cells #[.int .i64 PT.kd, .int .i64 PT.nm, .string PT.st, .slice none 0 0, .slice none 0 0] 28) := ⟨_, rfl⟩
  rw [← hW7] at HB7 q2 ⊢
  clear hW7
  go_cut [119] (fun v wx => v = .bool false ∧ Hid (Below w.heap.size w wx))
  case first =>
    as_aux_lemma =>
    have HRS : Hid (∀ X, Calls Tryz.prog 21 #[.string s] X fun e w' => e = .returned (.bool (stampB s)) ∧ w' = X) := fun X => stamp_any s X HS.out
    cases hnb : stampB s with
    | true =>
      have hz0 : zs = 0 := by rw [← HZS.out]; unfold stampE; rw [if_pos hnb]
      have tz : (zs == 0) = true := by rw [hz0]; rfl
      have hPS : PT.st = s := by rw [← HPT.out]; unfold stampR; rw [if_pos hnb]; rfl
      rw [hnb] at HRS
      rw [hPS] at q2
      have te := txt_is s s rfl
      clear hz0 hPS hnb
      go_wp2_with (go_at_call 21; go_must (refine (HRS.out _).mono ?_; rintro e w5 ⟨rfl, hw5⟩; obtain rfl := hw5.symm))
      go_meet
      exact ⟨by simp, HB7.out⟩
    | false =>
      have hz0 : zs = 1 := by rw [← HZS.out]; unfold stampE; rw [if_neg (by rw [hnb]; decide)]
      have tz : (zs == 0) = false := by rw [hz0]; rfl
      rw [hnb] at HRS
      clear hz0 hnb
      go_wp2_with (go_at_call 21; go_must (refine (HRS.out _).mono ?_; rintro e w5 ⟨rfl, hw5⟩; obtain rfl := hw5.symm))
      go_meet
      exact ⟨rfl, HB7.out⟩
  case rest =>
  obtain ⟨rfl, HB8⟩ := hcut
  clear HB7 HZS HPT q2
  have HX2 := hid (hv_leaf wc 2 n ⟨#[]⟩ (by decide) HN.out (by decide))
  obtain ⟨bw, hbw⟩ : ∃ b, b = wc.heap.size := ⟨_, rfl⟩
  obtain ⟨i1, hi', hz0', hz1', hz2'⟩ := info_parts Tryz.info34
  go_wp2_with fail
  have HB9 := hid (valloc_bel HB8.out (.cells #[.int .i64 6, .int .i64 0, .string ⟨#[]⟩, .slice none 0 0, .slice none 0 0] 28))
  have HX9 : Hid (Bx5 (wc.alloc (.cells #[.int .i64 6, .int .i64 0, .string ⟨#[]⟩, .slice none 0 0, .slice none 0 0] 28)) bw (.int .i64 6) (.int .i64 0) (.string ⟨#[]⟩) (.slice none 0 0) (.slice none 0 0)) := by rw [hbw]; exact ⟨by simp, by simp, by simp, by simp, by simp⟩
  have HR9 : Hid (Row (wc.alloc (.cells #[.int .i64 6, .int .i64 0, .string ⟨#[]⟩, .slice none 0 0, .slice none 0 0] 28)) bw 28 5) := by rw [hbw]; exact Row.new _ _ _
  have hge9 : w.heap.size ≤ bw := by rw [hbw]; exact HB8.out.size
  obtain ⟨W9, hW9⟩ : ∃ W, W = wc.alloc (.cells #[.int .i64 6, .int .i64 0, .string ⟨#[]⟩, .slice none 0 0, .slice none 0 0] 28) := ⟨_, rfl⟩
  have hsz9 : W9.heap.size = bw + 1 := by rw [hW9, World.size_alloc, hbw]
  rw [← hW9] at HB9 HX9 HR9 ⊢
  rw [← hbw]
  clear hW9 hbw HB8 HX2
  go_loopw [16, 18, 19] (fun mv hv i wr => ∃ (j : Nat) (P : List (ByteArray × VT)) (hz : Int) (o : Option Addr) (m c : Nat) (EW : List (ByteArray × VT × Value × Value)), i = .int .i64 j ∧ hv = .int .i64 hz ∧ j ≤ ks.length ∧ Hid (WInv ks (leafT 2 n ⟨#[]⟩) j P hz) ∧ Hid (MkSt w wr bw n ks j P mv (.slice o m c) EW)) (fun _ _ i _ => ks.length - (intOf i).toNat)
  case atStart => exact ⟨0, [], 0, none, 0, 0, [], rfl, rfl, Nat.zero_le _, winv_zero _ _, ⟨World.ownsRow_nil _ _ _ _, fun _ => rfl, HX9.out, HR9.out, World.ownsRow_nil _ _ _ _, rfl, fun e he => (by simp at he), fun g h => (by simp [Value.ownBlock] at h), HB9.out, hge9⟩⟩
  case round =>
    clear HX9 HR9 HB9
    obtain ⟨j, P, hz, o, m, c, EW, rfl, rfl, hj, HIN, HST⟩ := hrel
    by_cases hlt : j < ks.length
    · obtain ⟨ck, hck⟩ : ∃ c, ks[j]? = some c := ⟨ks[j], List.getElem?_eq_getElem hlt⟩
      obtain rfl := hk3 (by omega)
      have hbelow := HST.out.bel
      have kk := keepCell hbelow (HKC.out j ck hck).1
      have hcks := (HKC.out j ck hck).2
      obtain ⟨x0, x1, x2, x3, x4⟩ := HST.out.box
      have hbw1 : bw < wr.heap.size := HST.out.row.lt
      have HTW := hid (HST.out.tree)
      have HGE := hid (fun (X : World) (hX : Below wr.heap.size wr X) => get_law ck P HST.out.prs_eq (HTW.out.onto hX))
      generalize hth : (findK ck (P.map (·.1)) (P.map (·.2))).isSome = th at HGE
      have HTH := hid hth
      clear hth
      go_wp2_with fail
      go_cut [20, 21] from 121 to 154 (fun v20 v21 wx => ∃ b20, v20 = .pointer (some ⟨b20, 0, none⟩) ∧ v21 = .bool th ∧ Hid (Below wr.heap.size wr wx))
      case first =>
        as_aux_lemma =>
        have HS : Hid (∀ X, Below wr.heap.size wr X → Below wr.heap.size wr X ∧ X.cell? ⟨bw, 0, none⟩ = some (.int .i64 6) ∧ X.cell? ⟨bw, 1, none⟩ = some (.int .i64 0) ∧ X.cell? ⟨bw, 2, none⟩ = some (.string ⟨#[]⟩) ∧ X.cell? ⟨bw, 3, none⟩ = some (.slice none 0 0) ∧ X.cell? ⟨bw, 4, none⟩ = some (.slice o m c) ∧ X.cell? (ka.add j) = some (.string ck)) := fun X hX => ⟨hX, keepCell hX x0, keepCell hX x1, keepCell hX x2, keepCell hX x3, keepCell hX x4, keepCell hX kk⟩
        have HGA := hid (HGE.out _ (valloc_bel (Below.refl wr.heap.size wr) (.cells #[.int .i64 0, .int .i64 0, .string ⟨#[]⟩, .slice none 0 0, .slice none 0 0] 28)).drew)
        have HGB := hid (HGE.out _ (valloc_bel (Below.refl wr.heap.size wr).drew (.cells #[.int .i64 0, .int .i64 0, .string ⟨#[]⟩, .slice none 0 0, .slice none 0 0] 28)))
        have HGD := hid (HGE.out _ (Below.refl wr.heap.size wr).drew)
        go_region_held (fun X => Below wr.heap.size wr X ∧ X.cell? ⟨bw, 0, none⟩ = some (.int .i64 6) ∧ X.cell? ⟨bw, 1, none⟩ = some (.int .i64 0) ∧ X.cell? ⟨bw, 2, none⟩ = some (.string ⟨#[]⟩) ∧ X.cell? ⟨bw, 3, none⟩ = some (.slice none 0 0) ∧ X.cell? ⟨bw, 4, none⟩ = some (.slice o m c) ∧ X.cell? (ka.add j) = some (.string ck))
          ((refine HS.out _ ?_; first | exact (Below.refl _ _).drew | exact hbB | exact valloc_bel hbB _ | exact (valloc_bel (Below.refl _ _) _).drew | exact valloc_bel (Below.refl _ _).drew _ | (refine vset_bel (vset_bel (vset_bel (vset_bel (vset_bel hbB ?_) ?_) ?_) ?_) ?_ <;> exact Nat.le_refl _) | (trace_state; fail)))
          ((first
            | (go_at_call 22; first
              | ((with_reducible refine (HGA.out).mono ?_); rintro e w1 ⟨r1, r2, r3, o8, n8, c8, o9, n9, c9, rfl, hb1⟩; have hbB : Below wr.heap.size wr w1 := vonto (valloc_bel (Below.refl _ _) _).drew hb1; obtain ⟨⟨y0, y1, y2, y3, y4⟩, yf⟩ := (z5_new wr).onto (vonto (Below.refl _ _).drew hb1))
              | ((with_reducible refine (HGB.out).mono ?_); rintro e w1 ⟨r1, r2, r3, o8, n8, c8, o9, n9, c9, rfl, hb1⟩; have hbB : Below wr.heap.size wr w1 := vonto (valloc_bel (Below.refl _ _).drew _) hb1; obtain ⟨⟨y0, y1, y2, y3, y4⟩, yf⟩ := (z5_new wr.drew).onto hb1)
              | ((with_reducible refine (HGD.out).mono ?_); rintro e w1 ⟨r1, r2, r3, o8, n8, c8, o9, n9, c9, rfl, hb1⟩; have hbB : Below wr.heap.size wr w1 := vonto (Below.refl _ _).drew hb1))))
        · go_wp2_with fail
          go_meet
          exact ⟨w1.heap.size, rfl, rfl, valloc_bel hbB _⟩
        · go_wp2_with fail
          go_meet
          exact ⟨wr.heap.size, rfl, rfl, vset_bel (vset_bel (vset_bel (vset_bel (vset_bel hbB (Nat.le_refl _)) (Nat.le_refl _)) (Nat.le_refl _)) (Nat.le_refl _)) (Nat.le_refl _)⟩
      case rest =>
        obtain ⟨b20, rfl, rfl, HBC⟩ := hcut
        have HST2 := hid (HST.out.onto HBC.out)
        have kk2 := keepCell HBC.out kk
        have hzc := HBC.out.size
        clear x0 x1 x2 x3 x4 kk HST HTW HGE
        have HTW := hid (HST2.out.tree)
        have HRB := hid HST2.out.row
        have hbw1 : bw < wc.heap.size := HRB.out.lt
        have HPE := hid HST2.out.prs_eq
        have hTl : (EW.map (·.2.1)).length ≤ 100000 := by have := HIN.out; have h2 := HST2.out.prs_eq; have h3 := HIN.out.2.2.1.1; rw [← h2] at h3; simp [prs] at h3 ⊢; omega
        have HWI := hid (with_any (.mk 6 0 ⟨#[]⟩ [] (EW.map (·.1)) (EW.map (·.2.1))) (.slice none 0 0) (.slice o m c) ck (leafT 2 n ⟨#[]⟩) (.slice none 0 0) (.slice none 0 0) wc.drew (HTW.out.onto (Below.refl _ _).drew) (hv_leaf _ 2 n ⟨#[]⟩ (by decide) HN.out (by decide)) hcks (by exact hTl))
        simp only [vv, leafT, VT.kd, VT.nm, VT.st] at HWI
        have HK3 : Hid (∀ X, Below wc.heap.size wc X → X.cell? ⟨bw, 0, none⟩ = some (.int .i64 6) ∧ X.cell? ⟨bw, 1, none⟩ = some (.int .i64 0) ∧ X.cell? ⟨bw, 2, none⟩ = some (.string ⟨#[]⟩) ∧ X.cell? ⟨bw, 3, none⟩ = some (.slice none 0 0) ∧ X.cell? ⟨bw, 4, none⟩ = some (.slice o m c) ∧ X.cell? (ka.add j) = some (.string ck)) := fun X hX => by
          obtain ⟨y0, y1, y2, y3, y4⟩ := HST2.out.box
          exact ⟨keepCell hX y0, keepCell hX y1, keepCell hX y2, keepCell hX y3, keepCell hX y4, keepCell hX kk2⟩
        go_upto_if 136 with fail
        go_cut [18] from 121 to 154 (fun v wx => v = .int .i64 (if th then 5 else hz) ∧ wx = wc)
        case first =>
          cases th with
          | true =>
            go_wp2_with fail
            go_meet
            exact ⟨rfl, rfl⟩
          | false =>
            go_wp2_with fail
            go_meet
            exact ⟨rfl, rfl⟩
        case rest =>
        obtain ⟨rfl, hwc⟩ := hcut
        obtain rfl := hwc
        have HINV : Hid (WInv ks (leafT 2 n ⟨#[]⟩) (j + 1) (insP ck (leafT 2 n ⟨#[]⟩) false P) (if th then 5 else hz)) := by
          cases th with
          | true =>
            obtain ⟨e1, e2⟩ := winv_old HIN.out hck ((mem_find ck P).1 HTH.out)
            rw [e1]; exact e2
          | false => exact winv_new HIN.out hck (fun hm => absurd ((mem_find ck P).2 hm) (by rw [HTH.out]; decide))
        generalize (if th then 5 else hz) = hz' at HINV ⊢
        clear HTH
        go_wp2_with fail
        refine wp_region_ends2 (S := fun X => X.cell? ⟨bw, 0, none⟩ = some (.int .i64 6) ∧ X.cell? ⟨bw, 1, none⟩ = some (.int .i64 0) ∧ X.cell? ⟨bw, 2, none⟩ = some (.string ⟨#[]⟩) ∧ X.cell? ⟨bw, 3, none⟩ = some (.slice none 0 0) ∧ X.cell? ⟨bw, 4, none⟩ = some (.slice o m c) ∧ X.cell? (ka.add j) = some (.string ck)) (by simp) (by kernel_rfl) (by kernel_rfl) (by kernel_rfl) (by kernel_rfl) (by kernel_rfl) (by kernel_rfl) ?_
        simp only [List.dropLast, List.getLast_cons_cons, List.getLast_singleton, List.length_cons, List.length_nil]
        have hS0 := HK3.out wc.drew (Below.refl _ _).drew
        refine take_h (i := 0) (v := ?_) rfl (by kernel_rfl) (by kernel_rfl) (by kernel_rfl) (fun _ _ _ h => h) (by rfl) ?_ hS0 ?_
        rotate_left
        · (intro X hX; go_simp; try with_reducible rfl)
        simp only [Act.put, List.setIfInBounds_toArray, List.set_cons_zero, List.set_cons_succ]
        refine take_h (i := 1) (v := ?_) rfl (by kernel_rfl) (by kernel_rfl) (by kernel_rfl) (fun _ _ _ h => h) (by rfl) ?_ hS0 ?_
        rotate_left
        · (intro X hX; go_simp; try with_reducible rfl)
        simp only [Act.put, List.setIfInBounds_toArray, List.set_cons_zero, List.set_cons_succ]
        refine take_h (i := 2) (v := ?_) rfl (by kernel_rfl) (by kernel_rfl) (by kernel_rfl) (fun _ _ _ h => h) (by rfl) ?_ hS0 ?_
        rotate_left
        · (intro X hX; go_simp; try with_reducible rfl)
        simp only [Act.put, List.setIfInBounds_toArray, List.set_cons_zero, List.set_cons_succ]
        refine take_h (i := 3) (v := ?_) rfl (by kernel_rfl) (by kernel_rfl) (by kernel_rfl) (fun _ _ _ h => h) (by rfl) ?_ hS0 ?_
        rotate_left
        · (intro X hX; go_simp; try with_reducible rfl)
        simp only [Act.put, List.setIfInBounds_toArray, List.set_cons_zero, List.set_cons_succ]
        refine take_h (i := 4) (v := ?_) rfl (by kernel_rfl) (by kernel_rfl) (by kernel_rfl) (fun _ _ _ h => h) (by rfl) ?_ hS0 ?_
        rotate_left
        · (intro X hX; go_simp; try with_reducible rfl)
        simp only [Act.put, List.setIfInBounds_toArray, List.set_cons_zero, List.set_cons_succ]
        refine take_h (i := 5) (v := ?_) rfl (by kernel_rfl) (by kernel_rfl) (by kernel_rfl) (fun _ _ _ h => h) (by rfl) ?_ hS0 ?_
        rotate_left
        · (intro X hX; go_simp; try with_reducible rfl)
        simp only [Act.put, List.setIfInBounds_toArray, List.set_cons_zero, List.set_cons_succ]
        refine take_h (i := 6) (v := ?_) rfl (by kernel_rfl) (by kernel_rfl) (by kernel_rfl) (fun _ _ _ h => h) (by rfl) ?_ hS0 ?_
        rotate_left
        · (intro X hX; go_simp; try with_reducible rfl)
        simp only [Act.put, List.setIfInBounds_toArray, List.set_cons_zero, List.set_cons_succ]
        refine step_h (i := 7) rfl (by kernel_rfl) ?_
        intro KK hKK
        go_simp
        go_wp2_with (go_at_call 23; go_must (refine HWI.out.mono ?_; rintro e w3 ⟨AA, EE, o', m', c', hA1, hA2, hEE, rfl, hRW, hb3⟩))
        refine hKK.out _ _ (HK3.out _ (vonto (Below.refl _ _).drew hb3)) (fun hS1 => ?_)
        clear hKK KK hS0 hS1
        refine wpAnyH_done (by kernel_rfl) ?_ _
        have HEE := hid (with_old hA1 hA2 hEE.out HPE.out)
        have HLF := hid (ents_leaf HEE.out HINV.out.2.1)
        have HLF2 := HLF
        have HVI := hid (fun X => vint_law n X)
        have HRW := hid hRW
        have HB3 := hid hb3
        have hz3 := hb3.size
        have HR3 := hid (HRB.out.onto (hb3.block _ hbw1))
        obtain ⟨u0, e0⟩ := HR3.out.cell (o := 0) (by decide)
        obtain ⟨u1, e1⟩ := HR3.out.cell (o := 1) (by decide)
        obtain ⟨u2, e2⟩ := HR3.out.cell (o := 2) (by decide)
        obtain ⟨u3, e3⟩ := HR3.out.cell (o := 3) (by decide)
        obtain ⟨u4, e4⟩ := HR3.out.cell (o := 4) (by decide)
        have zf := HR3.out.frozen
        clear hRW hb3 hEE
        change Oper.wp _ _ _ _ _ _
        go_simp
        have HS4 := hid (HST2.out.put (P' := insP ck (leafT 2 n ⟨#[]⟩) false P) (vonto (Below.refl _ _).drew HB3.out) HRW.out.1 (fun e he => ⟨(HRW.out.2 e he).1, (HRW.out.2 e he).2.onto HB3.out⟩) HEE.out HLF.out)
        clear HRW HB3 HR3 u0 e0 u1 e1 u2 e2 u3 e3 u4 e4 zf hz3
        go_wp2_with fail
        unfold put5 at HS4
        obtain ⟨W4, hW4⟩ : ∃ W, W = ((((w3.setCell ⟨bw, 0, none⟩ (.int .i64 6)).setCell ⟨bw, 0 + 1, none⟩ (.int .i64 0)).setCell ⟨bw, 0 + 2, none⟩ (.string ⟨#[]⟩)).setCell ⟨bw, 0 + 3, none⟩ (.slice none 0 0)).setCell ⟨bw, 0 + 4, none⟩ (.slice o' m' c') := ⟨_, rfl⟩
        rw [← hW4] at HS4
        simp only [Nat.zero_add] at hW4
        rw [← hW4]
        clear hW4
        have kk4 := keepCell HS4.out.bel (HKC.out j ck hck).1
        have HK4 : Hid (∀ X, Below W4.heap.size W4 X → X.cell? (ka.add j) = some (.string ck)) := fun X hX => keepCell hX kk4
        have hgeW : bw + 1 ≤ W4.heap.size := HS4.out.row.lt
        have HMR := hid HS4.out.mrow
        refine wp_region_ends2 (S := fun X => X.cell? (ka.add j) = some (.string ck)) (by simp) (by kernel_rfl) (by kernel_rfl) (by kernel_rfl) (by kernel_rfl) (by kernel_rfl) (by kernel_rfl) ?_
        simp only [List.dropLast, List.getLast_cons_cons, List.getLast_singleton, List.length_cons, List.length_nil]
        have hS0 := HK4.out W4.drew (Below.refl _ _).drew
        refine take_h (i := 0) (v := ?_) rfl (by kernel_rfl) (by kernel_rfl) (by kernel_rfl) (fun _ _ _ h => h) (by rfl) ?_ hS0 ?_
        rotate_left
        · (intro X hX; go_simp; try with_reducible rfl)
        simp only [Act.put, List.setIfInBounds_toArray, List.set_cons_zero, List.set_cons_succ]
        refine take_h (i := 1) (v := ?_) rfl (by kernel_rfl) (by kernel_rfl) (by kernel_rfl) (fun _ _ _ h => h) (by rfl) ?_ hS0 ?_
        rotate_left
        · (intro X hX; go_simp; try with_reducible rfl)
        simp only [Act.put, List.setIfInBounds_toArray, List.set_cons_zero, List.set_cons_succ]
        refine take_h (i := 2) (v := ?_) rfl (by kernel_rfl) (by kernel_rfl) (by kernel_rfl) (fun _ _ _ h => h) (by rfl) ?_ hS0 ?_
        rotate_left
        · (intro X hX; go_simp; try with_reducible rfl)
        simp only [Act.put, List.setIfInBounds_toArray, List.set_cons_zero, List.set_cons_succ]
        refine take_h (i := 3) (v := ?_) rfl (by kernel_rfl) (by kernel_rfl) (by kernel_rfl) (fun _ _ _ h => h) (by rfl) ?_ hS0 ?_
        rotate_left
        · (intro X hX; go_simp; try with_reducible rfl)
        simp only [Act.put, List.setIfInBounds_toArray, List.set_cons_zero, List.set_cons_succ]
        refine take_h (i := 4) (v := ?_) rfl (by kernel_rfl) (by kernel_rfl) (by kernel_rfl) (fun _ _ _ h => h) (by rfl) ?_ hS0 ?_
        rotate_left
        · (intro X hX; go_simp; try with_reducible rfl)
        simp only [Act.put, List.setIfInBounds_toArray, List.set_cons_zero, List.set_cons_succ]
        refine take_h (i := 5) (v := ?_) rfl (by kernel_rfl) (by kernel_rfl) (by kernel_rfl) (fun _ _ _ h => h) (by rfl) ?_ hS0 ?_
        rotate_left
        · (intro X hX; go_simp; try with_reducible rfl)
        simp only [Act.put, List.setIfInBounds_toArray, List.set_cons_zero, List.set_cons_succ]
        refine step_h (i := 6) rfl (by kernel_rfl) ?_
        intro KK hKK
        go_simp
        go_wp2_with (go_at_call 24; go_must (refine (HVI.out W4.drew).mono ?_; rintro e w5 ⟨rfl, hb5⟩))
        have hb5' : Below W4.heap.size W4 w5 := vonto (Below.refl _ _).drew hb5
        have hs5z := hb5'.size
        refine hKK.out _ _ (HK4.out _ hb5') (fun hS1 => ?_)
        clear hKK KK hS0 hb5
        refine take_h (i := 7) (v := ?_) rfl (by kernel_rfl) (by kernel_rfl) (by kernel_rfl) (fun _ _ _ h => h) (by rfl) ?_ hS1 ?_
        rotate_left
        · (intro X hX; go_simp; try with_reducible rfl)
        simp only [Act.put, List.setIfInBounds_toArray, List.set_cons_zero, List.set_cons_succ]
        refine step_h (i := 8) rfl (by kernel_rfl) ?_
        intro KK hKK
        go_simp
        refine hKK.out _ _ (HK4.out _ (valloc_bel hb5' _)) (fun hS2 => ?_)
        clear hKK KK hS1
        refine step_h (i := 9) rfl (by kernel_rfl) ?_
        intro KK hKK
        refine step_append_lies _ (by rfl) _ _ _ (by rfl) (bw + 1) 42 i1 (.agg #[.string ⟨#[]⟩, .int .i64 0, .int .i64 0, .string ⟨#[]⟩, .slice none 0 0, .slice none 0 0]) 6 96 Tryz.underlying26 hi' hz0' hz1' hz2' rfl (by decide) _ j _ (by rfl) ((ownsRow_below HMR.out hb5').alloc _) ⟨w5.heap.size, 0, none⟩ 1 1 (pc (ck, leafT 2 n ⟨#[]⟩, .slice none 0 0, .slice none 0 0)) (by rfl) rfl (new_cells w5 _ 42) (pc_one' _ _ _ _ _ _ _ _) (by decide) (by unfold maxLen; omega) (by omega) (by simp; omega) (w5.heap.size + 1) (by simp) ?_
        intro g9 cap9 w9 hown9 hgr9 hat9 hlt9
        have HS9 := hid (HS4.out.more hck hb5' hgr9 hat9 hown9 HLF2.out)
        refine hKK.out _ _ (keepCell HS9.out.bel (HKC.out j ck hck).1) (fun hS3 => ?_)
        clear hKK KK hS2 hS3
        simp only [Act.put, List.setIfInBounds_toArray, List.set_cons_zero, List.set_cons_succ]
        refine wpAnyH_done (by kernel_rfl) ?_ _
        change Oper.wp _ _ _ _ _ _
        go_simp
        go_wp2_with fail
        go_roundw
        case rel => exact ⟨j + 1, _, hz', o', m', c', EE, val_int (by omega), rfl, hlt, HINV, HS9⟩
        case measure => simp [intOf]; omega
    · as_aux_lemma =>
      have hjA : j = ks.length := by omega
      subst hjA
      have HTW := hid HST.out.tree
      have HMP := hid (map_law HST.out.mrow HST.out.mnil (by omega) (fun c hc => by obtain ⟨i, hi⟩ := List.getElem?_of_mem hc; exact (HKC.out i c hi).2) HN.out)
      have HBX := hid HST.out.box
      have HBL := hid HST.out.bel
      have HPE := hid HST.out.prs_eq
      have hbw1 : bw < wr.heap.size := HST.out.row.lt
      clear HST
      go_wp2_with fail
      go_at_call 25
      refine HMP.out.mono ?_
      rintro e w3 ⟨A', o5, n5, c5, o6, n6, c6, hp, hr, rfl, hv3, hb3⟩
      have HMS := hid (map_says HIN.out hp hr)
      obtain ⟨MT, hMT⟩ : ∃ t, mapR A' = t := ⟨_, rfl⟩
      obtain ⟨zg, hzg⟩ : ∃ t, keI (A'.map (·.1)) = t := ⟨_, rfl⟩
      rw [hMT, hzg]
      rw [hMT] at hv3
      have HMT := hid hMT
      have HZG := hid hzg
      have hal := valloc_bel (Below.refl w3.heap.size w3) (.cells #[.int .i64 MT.kd, .int .i64 MT.nm, .string MT.st, .slice o5 n5 c5, .slice o6 n6 c6] 28)
      have HV3 := hid (bx_new hv3 28)
      have HW3 := hid ((HTW.out.onto hb3).onto hal)
      have HX3 := hid ((HBX.out.same (hb3.block _ hbw1)).same (hal.block _ (Nat.lt_of_lt_of_le hbw1 hb3.size)))
      have HB3 := hid (vonto (vonto HBL.out hb3) hal)
      clear hp hr hv3 hb3 hal hMT hzg HMP HTW HBX HBL
      rcases HMS.out with ⟨h5, hk5⟩ | ⟨h0, hAP, hadj⟩
      · have tz : (zg == hz) = true := by rw [← HZG.out, hk5, h5]; rfl
        have tz2 : (hz != 0) = true := by rw [h5]; rfl
        have tz3 : (hz == 0) = false := by rw [h5]; rfl
        clear HMS h5 hk5
        go_wp2_with fail
        go_loopw [24] (fun i wx => i = .int .i64 0 ∧ Hid (Below w.heap.size w wx)) (fun _ _ => 0)
        case atStart => exact ⟨rfl, HB3⟩
        case round =>
          obtain ⟨rfl, HBX⟩ := hrel
          go_wp2_with fail
          all_goals go_ret
          all_goals exact ⟨rfl, HBX.out⟩
      · subst hAP
        have tz2 : (hz != 0) = false := by rw [h0]; rfl
        have tz3 : (hz == 0) = true := by rw [h0]; rfl
        have HH0 := hid h0
        have HADJ := hid hadj
        clear HMS h0 hadj
        go_wp2_with fail
        obtain ⟨W3, hW3⟩ : ∃ W, W = w3.alloc (.cells #[.int .i64 MT.kd, .int .i64 MT.nm, .string MT.st, .slice o5 n5 c5, .slice o6 n6 c6] 28) := ⟨_, rfl⟩
        rw [← hW3] at HV3 HW3 HX3 HB3 ⊢
        clear hW3
        go_loopw [24] (fun i wx => ∃ k : Nat, i = .int .i64 k ∧ k ≤ ks.length ∧ Hid (∀ (q : Nat) (d : ByteArray), q < k → ks[q]? = some d → strOkB d = true) ∧ Hid (Below W3.heap.size W3 wx)) (fun i _ => ks.length - (intOf i).toNat)
        case atStart => exact ⟨0, rfl, Nat.zero_le _, fun q d h => absurd h (Nat.not_lt_zero _), Below.refl _ _⟩
        case round =>
          obtain ⟨k, rfl, hk, HOK, HBW⟩ := hrel
          by_cases hlt2 : k < ks.length
          · obtain ⟨ck, hck⟩ : ∃ c, ks[k]? = some c := ⟨ks[k], List.getElem?_eq_getElem hlt2⟩
            obtain rfl := hk3 (by omega)
            have kk := keepCell (vonto HB3.out HBW.out) (HKC.out k ck hck).1
            have HSR := hid (str_any ck wr (HKC.out k ck hck).2)
            cases hso : strOkB ck with
            | false =>
              have hbad : zg = 3 ∨ zg = 2 := by
                rw [← HZG.out]
                exact ke_bad HADJ.out ((HIN.out.2.2.1.2 ck).2 (by rw [List.take_length]; exact List.mem_of_getElem? hck)) hso
              rw [hso] at HSR
              rcases hbad with hb | hb
              · have t1 : (zg == 3) = true := by rw [hb]; rfl
                clear hb
                go_wp2_with (go_at_call 26; go_must (refine HSR.out.mono ?_; rintro e w5 ⟨rfl, hb5⟩))
                go_ret
                exact ⟨rfl, vonto (vonto HB3.out HBW.out) hb5⟩
              · have t1 : (zg == 3) = false := by rw [hb]; rfl
                have t2 : (zg == 2) = true := by rw [hb]; rfl
                clear hb
                go_wp2_with (go_at_call 26; go_must (refine HSR.out.mono ?_; rintro e w5 ⟨rfl, hb5⟩))
                go_ret
                exact ⟨rfl, vonto (vonto HB3.out HBW.out) hb5⟩
            | true =>
              rw [hso] at HSR
              have HSO := hid hso
              clear hso
              go_wp2_with (go_at_call 26; go_must (refine HSR.out.mono ?_; rintro e w5 ⟨rfl, hb5⟩))
              go_roundw
              case rel => exact ⟨k + 1, val_int (by omega), hlt2, hid (fun q d hq hd => by
                by_cases hqk : q = k
                · subst hqk; rw [hck] at hd; cases hd; exact HSO.out
                · exact HOK.out q d (by omega) hd), vonto HBW.out hb5⟩
              case measure => simp [intOf]; omega
          · have hall : ∀ d ∈ A'.map (·.1), strOkB d = true := fun d hd => by
              have := (HIN.out.2.2.1.2 d).1 hd
              rw [List.take_length] at this
              obtain ⟨q, hq⟩ := List.getElem?_of_mem this
              exact HOK.out q d (by have := lt_of_some hq; omega) hq
            have hz0 : zg = 0 := by rw [← HZG.out]; exact ke_good HADJ.out hall
            have tz : (zg == hz) = true := by rw [hz0, HH0.out]; rfl
            have hMT : MT = .mk 6 0 ⟨#[]⟩ [] (A'.map (·.1)) (A'.map (·.2)) := by
              rw [← HMT.out]; unfold mapR; rw [HZG.out, if_pos hz0]
            have hTW : (VT.mk 6 0 ⟨#[]⟩ [] (EW.map (·.1)) (EW.map (·.2.1))) = MT := by
              rw [hMT, ← HPE.out]; unfold prs; rw [List.map_map, List.map_map]; rfl
            have hlen : A'.length ≤ 20 := by have := HIN.out.2.2.1.1; omega
            have HMAY := hid (show mayB 0 1 MT = true by rw [hMT]; exact map_may HIN.out.1 hall HIN.out.2.1 hlen)
            rw [hTW] at HW3
            have hkd : MT.kd = 6 ∧ MT.nm = 0 ∧ MT.st = ⟨#[]⟩ := by rw [hMT]; exact ⟨rfl, rfl, rfl⟩
            obtain ⟨x0, x1, x2, x3, x4⟩ := HX3.out
            obtain ⟨y0, y1, y2, y3, y4⟩ := (HV3.out.onto HBW.out).cells
            have z0 := keepCell HBW.out x0; have z1 := keepCell HBW.out x1; have z2 := keepCell HBW.out x2; have z3 := keepCell HBW.out x3; have z4 := keepCell HBW.out x4
            have HSM := hid (same_any (szT MT) MT MT _ _ _ _ false wr (Nat.le_refl _) (HV3.out.onto HBW.out).2 (HW3.out.onto HBW.out))
            rw [like_self] at HSM
            simp only [vv] at HSM
            rw [hkd.1, hkd.2.1, hkd.2.2] at HSM
            rw [hkd.1] at y0
            rw [hkd.2.1] at y1
            rw [hkd.2.2] at y2
            have HKD := hid hkd
            clear x0 x1 x2 x3 x4 hMT hTW hz0 hkd hall
            go_wp2_with fail
            go_at_call 17
            refine HSM.out.mono ?_
            rintro e w5 ⟨rfl, hb5⟩
            have HB5 := hid (vonto (vonto HB3.out HBW.out) hb5)
            have v0 := keepCell hb5 y0; have v1 := keepCell hb5 y1; have v2 := keepCell hb5 y2; have v3 := keepCell hb5 y3; have v4 := keepCell hb5 y4
            have HGD := hid (vgood_any MT _ _ w5 (HG.out.on HB5.out) ((HV3.out.onto HBW.out).onto hb5).2)
            rw [HMAY.out] at HGD
            simp only [vv] at HGD
            rw [HKD.out.1, HKD.out.2.1, HKD.out.2.2] at HGD
            clear y0 y1 y2 y3 y4 z0 z1 z2 z3 z4 hb5
            go_wp2_with (go_at_call 27; go_must (refine HGD.out.mono ?_; rintro e w6 ⟨rfl, hb6⟩))
            go_ret
            exact ⟨rfl, vonto HB5.out hb6⟩
end Go.Proofs.YtgfkhnpbkdddbaaGreatDoor
