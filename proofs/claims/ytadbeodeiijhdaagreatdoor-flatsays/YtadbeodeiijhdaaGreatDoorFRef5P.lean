
import Derived.Test.YtadbeodeiijhdaaGreatDoorFMathFl
import Derived.Test.YtadbeodeiijhdaaGreatDoorFPathDoc
import Derived.Test.YtadbeodeiijhdaaGreatDoorFRefVal7
import Derived.Test.YtadbeodeiijhdaaGreatDoorFVHold
import Derived.Test.YtadbeodeiijhdaaGreatDoorFRefMake
/- The document's side: what stands at a path. -/
/- The document's side: a tree, or nothing. -/
/- Plain mathematics: what is set, or dropped, at a path, told from its first step on. -/
/- With on a tree's pairs: the same keys with one value in its place, or one key more where it belongs. -/
/- The document's side: what is set at a path. -/
namespace Go.Proofs.YtadbeodeiijhdaaGreatDoor
open Go.RowKit

theorem first_find (key : ByteArray) : ∀ (K : List ByteArray) (V : List VT), K.length = V.length → (firstI (keyIs key) K).bind (fun i => V[i]?) = findK key K V
  | [], [], _ => rfl
  | [], _ :: _, h => by simp at h
  | _ :: _, [], h => by simp at h
  | c :: K, t :: V, h => by
    unfold firstI findK
    by_cases hk : c.data.toList = key.data.toList
    · rw [if_pos (by unfold keyIs; exact decide_eq_true hk), if_pos hk]; rfl
    · rw [if_neg (by unfold keyIs; rw [decide_eq_false hk]; decide), if_neg hk, ← first_find key K V (by simpa using h)]
      cases firstI (keyIs key) K <;> simp
theorem key_get {T : VT} (h : T.ks.length = T.vs.length) {s : PStep} (hs : s.place = false) : (idxT T s).bind (kidT T s) = getO T s.key := by
  unfold idxT getO kidT
  rw [if_neg (by rw [hs]; decide)]
  by_cases h6 : T.kd = 6
  · rw [if_pos h6, if_pos h6]
    have e : (fun (i : Nat) => if s.place = true then T.ls[i]? else T.vs[i]?) = fun (i : Nat) => T.vs[i]? := by funext i; rw [if_neg (by rw [hs]; decide)]
    rw [e]
    exact first_find s.key T.ks T.vs h
  · rw [if_neg h6, if_neg h6]; rfl
set_option maxRecDepth 100000 in
set_option maxHeartbeats 1000000 in
theorem get_at (T : VT) (x y : Value) (key : ByteArray) (w0 w : World) (hT : HV w0 T x y) (hw0 : Below w0.heap.size w0 w) :
    Calls Tryz.prog 75 #[vv T x y, .string key] w fun e w' => ∃ R X Y, e = .returned (.tuple #[vv R X Y, .bool (getO T key).isSome]) ∧ R = (getO T key).getD zeroT ∧ HV w0 R X Y ∧ Below w.heap.size w w' := by
  cases hT with
  | mk a b f g p q hk hn hs hL hM hK cL cK cM rL rM =>
  rename_i k n s L K V
  replace cM := fun i t h => (cM i t h).onto hw0
  replace cK := fun i u h => And.intro (keepCell hw0 (cK i u h).1) (cK i u h).2
  clear hw0
  change Calls _ _ #[.agg #[.int .i64 k, .int .i64 n, .string s, _, _], _] _ _
  obtain ⟨oL, capL, rfl, hL1, hL2, hL3⟩ := hL
  obtain ⟨oM, capM, rfl, hM1, hM2, hM3⟩ := hM
  unfold maxLen at hL2 hM2
  by_cases h6 : k = 6
  · subst h6
    have HG := hid (show getO (.mk 6 n s L K V) key = findK key K V by unfold getO; rfl)
    go_enter Tryz.func75, Tryz.ntmps75
    go_wp2_with fail
    go_loop [6] (fun i => ∃ j : Nat, i = .int .i64 j ∧ j ≤ V.length ∧ Hid (∀ (i : Nat) (c : ByteArray), i < j → K[i]? = some c → ¬ c.data.toList = key.data.toList)) (fun i => V.length - (intOf i).toNat)
    case atStart => exact ⟨0, rfl, Nat.zero_le _, hid (fun i c h => absurd h (Nat.not_lt_zero _))⟩
    case round =>
      obtain ⟨j, rfl, hj, HJ⟩ := hrel
      by_cases hlt : j < V.length
      · obtain ⟨t, ht⟩ : ∃ t, V[j]? = some t := ⟨V[j], List.getElem?_eq_getElem hlt⟩
        obtain ⟨c, hc⟩ : ∃ c, K[j]? = some c := ⟨K[j], List.getElem?_eq_getElem (by omega)⟩
        obtain rfl := hM3 (by omega)
        have hbw : ∀ o o', Below w.heap.size w ((w.alloc o).alloc o') := fun o o' => ((Below.refl _ _).alloc (Nat.le_refl _) _).alloc (by simp) _
        have hnode := fun o o' => (cM j t ht).onto (hbw o o')
        simp only [Node, nx] at hnode
        have d0 := fun o o' => (hnode o o').1
        have d1 := fun o o' => (hnode o o').2.1
        have d2 := fun o o' => (hnode o o').2.2.1
        have d3 := fun o o' => (hnode o o').2.2.2.1
        have d4 := fun o o' => (hnode o o').2.2.2.2
        have e0 := fun o o' => keepCell (hbw o o') (cK j c hc).1
        clear hnode
        by_cases he : c.data.toList = key.data.toList
        · have te := txt_is c key he
          have HF := hid (findK_some key K V j c t hc ht he HJ.out)
          have HR := hid (rM j t ht)
          obtain ⟨o1, n1, c1, o2, n2, c2, hp, hq⟩ := hv_slices (rM j t ht)
          rw [hp] at HR
          rw [hq] at HR
          simp only [hp] at d3
          simp only [hq] at d4
          clear he hp hq
          go_wp2_with fail
          refine bodyPost_ret (v := .tuple #[vv t (.slice o1 n1 c1) (.slice o2 n2 c2), .bool true]) (by simp [results, Tryz.results75, go_sem, vv]) rfl ⟨t, _, _, ?_, ?_, HR.out, ?_⟩
          · rw [HG.out, HF.out]; rfl
          · rw [HG.out, HF.out]; rfl
          · repeat (first | exact Below.refl _ _ | apply valloc_bel | (refine vset_bel ?_ (by simp)))
        · have te := txt_no c key he
          have HE := hid he
          clear he
          go_wp2_with fail
          go_round
          case rel => exact ⟨j + 1, val_int (by omega), hlt, hid (fun i c' hi hc' => by
            by_cases hij : i = j
            · subst hij; rw [hc] at hc'; cases hc'; exact HE.out
            · exact HJ.out i c' (by omega) hc')⟩
          case measure => simp [intOf]; omega
      · have HF := hid (findK_none key K V (fun i c hi => HJ.out i c (by have := (List.getElem?_eq_some_iff.1 hi).1; omega) hi))
        go_wp2_with fail
        refine bodyPost_ret (v := .tuple #[vv zeroT (.slice none 0 0) (.slice none 0 0), .bool false]) (by simp [results, Tryz.results75, go_sem, vv, zeroT, VT.kd, VT.nm, VT.st]) rfl ⟨zeroT, _, _, ?_, ?_, hv_zero w0, ?_⟩
        · rw [HG.out, HF.out]; rfl
        · rw [HG.out, HF.out]; rfl
        · repeat (first | exact Below.refl _ _ | apply valloc_bel | (refine vset_bel ?_ (by simp)))
  · have HG := hid (show getO (.mk k n s L K V) key = none by unfold getO; rw [if_neg (by exact h6)])
    have t6 : (k == 6) = false := by simpa using h6
    clear h6
    go_enter Tryz.func75, Tryz.ntmps75
    go_wp2_with fail
    go_loop [6] (fun i => i = .int .i64 0) (fun i => 0)
    case atStart => rfl
    case round =>
      subst hrel
      by_cases hv : 0 < V.length
      · go_wp2_with fail
        refine bodyPost_ret (v := .tuple #[vv zeroT (.slice none 0 0) (.slice none 0 0), .bool false]) (by simp [results, Tryz.results75, go_sem, vv, zeroT, VT.kd, VT.nm, VT.st]) rfl ⟨zeroT, _, _, ?_, ?_, hv_zero w0, ?_⟩
        · rw [HG.out]; rfl
        · rw [HG.out]; rfl
        · repeat (first | exact Below.refl _ _ | apply valloc_bel | (refine vset_bel ?_ (by simp)))
      · go_wp2_with fail
        refine bodyPost_ret (v := .tuple #[vv zeroT (.slice none 0 0) (.slice none 0 0), .bool false]) (by simp [results, Tryz.results75, go_sem, vv, zeroT, VT.kd, VT.nm, VT.st]) rfl ⟨zeroT, _, _, ?_, ?_, hv_zero w0, ?_⟩
        · rw [HG.out]; rfl
        · rw [HG.out]; rfl
        · repeat (first | exact Below.refl _ _ | apply valloc_bel | (refine vset_bel ?_ (by simp)))
/-- a tree's box that may be written to, and a fresh one behind it -/
structure Twob (w : World) (b : Nat) (U : VT) (x y : Value) : Prop where
  node : Node w ⟨b, 0, none⟩ U x y
  soft : Row w b 26 5
  zero : Z5 w (b + 1)
theorem Twob.onto {w w' : World} {b : Nat} {U : VT} {x y : Value} (h : Twob w b U x y) (hb : Below w.heap.size w w') : Twob w' b U x y :=
  ⟨h.node.onto hb, h.soft.onto (hb.block b (World.block_lt_of_cell? w ⟨b, 0, none⟩ h.node.1)), h.zero.onto hb⟩
theorem twob_new (w : World) (T : VT) (x y : Value) : Twob ((w.alloc (.cells #[.int .i64 T.kd, .int .i64 T.nm, .string T.st, x, y] 26)).alloc (.cells #[.int .i64 0, .int .i64 0, .string ⟨#[]⟩, .slice none 0 0, .slice none 0 0] 26)) w.heap.size T x y := by
  have hb := valloc_bel (Below.refl (w.alloc (.cells #[.int .i64 T.kd, .int .i64 T.nm, .string T.st, x, y] 26)).heap.size (w.alloc (.cells #[.int .i64 T.kd, .int .i64 T.nm, .string T.st, x, y] 26))) (.cells #[.int .i64 0, .int .i64 0, .string ⟨#[]⟩, .slice none 0 0, .slice none 0 0] 26)
  have hz := z5_new (w.alloc (.cells #[.int .i64 T.kd, .int .i64 T.nm, .string T.st, x, y] 26))
  rw [World.size_alloc] at hz
  refine ⟨Node.onto ⟨?_, ?_, ?_, ?_, ?_⟩ hb, ?_, hz⟩
  · simp
  · simp
  · simp
  · simp
  · simp
  · exact (Row.new w #[.int .i64 T.kd, .int .i64 T.nm, .string T.st, x, y] 26).onto (hb.block w.heap.size (by simp))
theorem z5_far {w W : World} {b : Nat} (h : Z5 w b) (e : W.heap[b]? = w.heap[b]?) : Z5 W b := by
  obtain ⟨⟨h0, h1, h2, h3, h4⟩, hf⟩ := h
  have c : ∀ o, W.cell? ⟨b, o, none⟩ = w.cell? ⟨b, o, none⟩ := fun o => World.cell?_of_block (a := ⟨b, o, none⟩) e
  exact ⟨⟨(c 0).trans h0, (c 1).trans h1, (c 2).trans h2, (c 3).trans h3, (c 4).trans h4⟩, fun o => (World.frozen?_of_block (a := ⟨b, o, none⟩) e).trans (hf o)⟩
theorem twob_put {w : World} {b : Nat} {U T : VT} {x y x' y' : Value} (h : Twob w b U x y) : Twob (put5 w b 0 (.int .i64 T.kd) (.int .i64 T.nm) (.string T.st) x' y') b T x' y' :=
  ⟨put5_node h.soft 0 (by omega) T x' y', put5_row h.soft _ _ _ _ _ _ _, z5_far h.zero (put5_heap _ _ _ _ _ _ _ _ _ (by omega))⟩
end Go.Proofs.YtadbeodeiijhdaaGreatDoor
namespace Go.Proofs.YtadbeodeiijhdaaGreatDoor
open Go.RowKit

end Go.Proofs.YtadbeodeiijhdaaGreatDoor
namespace Go.Proofs.YtadbeodeiijhdaaGreatDoor
open Go.RowKit

end Go.Proofs.YtadbeodeiijhdaaGreatDoor
namespace Go.Proofs.YtadbeodeiijhdaaGreatDoor
open Go.RowKit

end Go.Proofs.YtadbeodeiijhdaaGreatDoor
namespace Go.Proofs.YtadbeodeiijhdaaGreatDoor
open Go.RowKit

/-- the three boxes of Set: a tree, what is put in, the result -/
structure S5 (w wr : World) (T : VT) (x y : Value) (U : VT) (x' y' : Value) : Prop where
  node : Node wr ⟨w.heap.size, 0, none⟩ T x y
  nodx : Node wr ⟨w.heap.size + 1, 0, none⟩ U x' y'
  zero : Z5 wr (w.heap.size + 1 + 1)
  bel : Below w.heap.size w wr
  big : w.heap.size + 3 ≤ wr.heap.size
theorem S5.onto {w wr wr' : World} {T : VT} {x y : Value} {U : VT} {x' y' : Value} (h : S5 w wr T x y U x' y') (hb : Below (w.heap.size + 3) wr wr') : S5 w wr' T x y U x' y' := by
  have h1 := h.big
  have h2 := hb.size
  exact ⟨h.node.eqs (hb.block _ (by show w.heap.size < _; omega)), h.nodx.eqs (hb.block _ (by show w.heap.size + 1 < _; omega)), z5_far h.zero (hb.block _ (by omega)), h.bel.trans (hb.mono (by omega)), by omega⟩
theorem S5.on {w wr wr' : World} {T : VT} {x y : Value} {U : VT} {x' y' : Value} (h : S5 w wr T x y U x' y') (hb : Below wr.heap.size wr wr') : S5 w wr' T x y U x' y' := h.onto (hb.mono h.big)
/-- what Set answers -/
def Set5 (o : Option VT) (w : World) (e : Ending) (w' : World) : Prop := ∃ R X Y, e = .returned (.tuple #[vv R X Y, .bool o.isSome]) ∧ R = o.getD zeroT ∧ HS w' (fun k => w.heap.size ≤ k ∧ k < w'.heap.size) R X Y ∧ Below w.heap.size w w'
theorem Copied.on {w w' : World} {lo : Nat} {v : Value} {L : List VT} {j : Nat} {E : List (VT × Value × Value)} (h : Copied w lo v L j E) (hb : Below w.heap.size w w') : Copied w' lo v L j E := by
  have := hb.size
  exact ⟨h.1, h.2.1, ownsRow_below h.2.2.1 hb, fun e he => (h.2.2.2 e he).onto (fun k hk => hb.block k hk.2.1) (fun k hk => ⟨hk.1, by omega, hk.2.2⟩)⟩
theorem own_base5 {w : World} {base base' : Nat} {ty : TypeId} {k n : Nat} {v : Value} {xs : List Value} (h : w.ownsRow base ty k v n xs) (hb : base' ≤ base) : w.ownsRow base' ty k v n xs := by
  refine ⟨h.1, ?_⟩
  rcases h.2 with h1 | ⟨g, cap, cur, h1, h2, h3⟩
  · exact Or.inl h1
  · exact Or.inr ⟨g, cap, cur, h1, Nat.le_trans hb h2, h3⟩
theorem Copied.wide {w : World} {lo lo' : Nat} {v : Value} {L : List VT} {j : Nat} {E : List (VT × Value × Value)} (h : Copied w lo v L j E) (hl : lo' ≤ lo) : Copied w lo' v L j E :=
  ⟨h.1, h.2.1, own_base5 h.2.2.1 hl, fun e he => (h.2.2.2 e he).onto (fun _ _ => rfl) (fun k hk => ⟨by omega, hk.2⟩)⟩
theorem HS.on {w w' : World} {lo hi : Nat} {T : VT} {x y : Value} (h : HS w (fun k => lo ≤ k ∧ k < w.heap.size) T x y) (hb : Below w.heap.size w w') (hl : hi ≤ lo) : HS w' (fun k => hi ≤ k ∧ k < w'.heap.size) T x y := by
  have := hb.size
  exact h.onto (fun k hk => hb.block k hk.2) (fun k hk => ⟨by omega, by omega⟩)
/-- the step's box -/
structure Sb (wr : World) (b : Nat) (s : PStep) : Prop where
  c0 : wr.cell? ⟨b, 0, none⟩ = some (.string s.key)
  c1 : wr.cell? ⟨b, 1, none⟩ = some (.int .i64 s.at_)
  c2 : wr.cell? ⟨b, 2, none⟩ = some (.bool s.place)
theorem Sb.onto {wr wr' : World} {b : Nat} {s : PStep} (h : Sb wr b s) (hb : Below wr.heap.size wr wr') : Sb wr' b s := ⟨keepCell hb h.c0, keepCell hb h.c1, keepCell hb h.c2⟩
end Go.Proofs.YtadbeodeiijhdaaGreatDoor
