import Derived.Test.YteimbjamnfkapaaGreatDoorCOwnB
import Derived.Test.YteimbjamnfkapaaGreatDoorCPathDoc
import Derived.Test.YteimbjamnfkapaaGreatDoorCRefVal7
import Derived.Test.YteimbjamnfkapaaGreatDoorCRefMake
import Derived.Test.YteimbjamnfkapaaGreatDoorCVSorts
import Derived.Test.YteimbjamnfkapaaGreatDoorCVBase
/- The document's side: what stands at a path. -/
/- The document's side: a tree, or nothing. -/
/- Plain mathematics: what is set, or dropped, at a path, told from its first step on. -/
/- With on a tree's pairs: the same keys with one value in its place, or one key more where it belongs. -/
/- The document's side: what is set at a path. -/
namespace Go.Proofs.YteimbjamnfkapaaGreatDoor
open Go.RowKit
structure Twob (w : World) (b : Nat) (U : VT) (x y : Value) : Prop where
 node : Node w ⟨b, 0, none⟩ U x y
 soft : Row w b 29 5
 zero : Z5 w (b + 1)
theorem Twob.onto {w w' : World} {b : Nat} {U : VT} {x y : Value} (h : Twob w b U x y) (hb : Below w.heap.size w w') : Twob w' b U x y :=
 ⟨h.node.onto hb, h.soft.onto (hb.block b (World.block_lt_of_cell? w ⟨b, 0, none⟩ h.node.1)), h.zero.onto hb⟩
theorem z5_far {w W : World} {b : Nat} (h : Z5 w b) (e : W.heap[b]? = w.heap[b]?) : Z5 W b := by
 obtain ⟨⟨h0, h1, h2, h3, h4⟩, hf⟩ := h
 have c : ∀ o, W.cell? ⟨b, o, none⟩ = w.cell? ⟨b, o, none⟩ := fun o => World.cell?_of_block (a := ⟨b, o, none⟩) e
 exact ⟨⟨(c 0).trans h0, (c 1).trans h1, (c 2).trans h2, (c 3).trans h3, (c 4).trans h4⟩, fun o => (World.frozen?_of_block (a := ⟨b, o, none⟩) e).trans (hf o)⟩
end Go.Proofs.YteimbjamnfkapaaGreatDoor
namespace Go.Proofs.YteimbjamnfkapaaGreatDoor
open Go.RowKit
theorem hs_zero (w : World) (S : Nat → Prop) : HS w S zeroT (.slice none 0 0) (.slice none 0 0) :=
 .mk ⟨0, 0, none⟩ ⟨0, 0, none⟩ (fun _ => .int .i64 0) (fun _ => .int .i64 0) (fun _ => .int .i64 0) (fun _ => .int .i64 0) (by decide) (by decide) (by decide)
  ⟨none, 0, rfl, Nat.le_refl _, Nat.zero_le _, fun h => absurd h (Nat.lt_irrefl 0)⟩ ⟨none, 0, rfl, Nat.le_refl _, Nat.zero_le _, fun h => absurd h (Nat.lt_irrefl 0)⟩ rfl
  (fun h => absurd h (Nat.lt_irrefl 0)) (fun h => absurd h (Nat.lt_irrefl 0)) (fun i t h => by simp at h) (fun i t h => by simp at h) (fun i t h => by simp at h) (fun i t h => by simp at h) (fun i t h => by simp at h)
structure S5 (w wr : World) (T : VT) (x y : Value) (U : VT) (x' y' : Value) : Prop where
 node : Node wr ⟨w.heap.size, 0, none⟩ T x y
 nodx : Node wr ⟨w.heap.size + 1, 0, none⟩ U x' y'
 zero : Z5 wr (w.heap.size + 1 + 1)
 bel : Below w.heap.size w wr
 big : w.heap.size + 3 ≤ wr.heap.size
theorem S5.onto {w wr wr' : World} {T : VT} {x y : Value} {U : VT} {x' y' : Value} (h : S5 w wr T x y U x' y') (hb : Below (w.heap.size + 3) wr wr') : S5 w wr' T x y U x' y' := by
 have h1 := h.big
 have h2 := hb.size
 exact ⟨h.node.eqs (hb.block _ (by show w.heap.size < _; omega)), h.nodx.eqs (hb.block _ (by show w.heap.size + 1 < _; omega)), z5_far h.zero (hb.block _ (by omega)), h.bel.trans (hb.mono (by omega)), by omega⟩
theorem S5.on {w wr wr' : World} {T : VT} {x y : Value} {U : VT} {x' y' : Value} (h : S5 w wr T x y U x' y') (hb : Below wr.heap.size wr wr') : S5 w wr' T x y U x' y' := h.onto (hb.mono h.big)
def Set5 (o : Option VT) (w : World) (e : Ending) (w' : World) : Prop := ∃ R X Y, e = .returned (.tuple #[vv R X Y, .bool o.isSome]) ∧ R = o.getD zeroT ∧ HS w' (fun k => w.heap.size ≤ k ∧ k < w'.heap.size) R X Y ∧ Below w.heap.size w w'
theorem put5_hs {w : World} {b lo : Nat} {T : VT} {x y v0 v1 v2 v3 v4 : Value} (hb : b < lo) (h : HS w (fun k => lo ≤ k ∧ k < w.heap.size) T x y) {lo' : Nat} (hl : lo' ≤ lo) : HS (put5 w b 0 v0 v1 v2 v3 v4) (fun k => lo' ≤ k ∧ k < (put5 w b 0 v0 v1 v2 v3 v4).heap.size) T x y := by
 rw [put5_size]
 exact h.onto (fun k hk => put5_heap _ _ _ _ _ _ _ _ _ (by omega)) (fun k hk => ⟨by omega, hk.2⟩)
theorem own_far {w : World} {base : Nat} {ty : TypeId} {k n : Nat} {v : Value} {xs : List Value} (h : w.ownsRow base ty k v n xs) (b o : Nat) (u : Value) (hb : ∀ g, v.ownBlock = some g → ¬ g = b) : (w.setCell ⟨b, o, none⟩ u).ownsRow base ty k v n xs := by
 refine h.kept (set_grown w b o u) ?_
 cases hv : v.ownBlock with
 | none => exact Or.inl rfl
 | some g => exact Or.inr (fun e => by injection e with e; exact hb g hv e)
theorem own_far5 {w : World} {base : Nat} {ty : TypeId} {k n : Nat} {v : Value} {xs : List Value} (h : w.ownsRow base ty k v n xs) (b o : Nat) (v0 v1 v2 v3 v4 : Value) (hb : ∀ g, v.ownBlock = some g → ¬ g = b) : (put5 w b o v0 v1 v2 v3 v4).ownsRow base ty k v n xs := by
 unfold put5
 exact own_far (own_far (own_far (own_far (own_far h _ _ _ hb) _ _ _ hb) _ _ _ hb) _ _ _ hb) _ _ _ hb
theorem ls_nil (w : World) (S : Nat → Prop) : LS w S [] (.slice none 0 0) := ⟨⟨0, 0, none⟩, fun _ => .nilIface, fun _ => .nilIface, ⟨none, 0, rfl, Nat.le_refl _, Nat.zero_le _, fun h => absurd h (by simp)⟩, fun h => absurd h (by simp), fun i t h => by simp at h, fun i t h => by simp at h⟩
theorem ms_nil (w : World) (S : Nat → Prop) : MS w S [] [] (.slice none 0 0) := ⟨⟨0, 0, none⟩, fun _ => .nilIface, fun _ => .nilIface, ⟨none, 0, rfl, Nat.le_refl _, Nat.zero_le _, fun h => absurd h (by simp)⟩, rfl, fun h => absurd h (by simp), fun i t h => by simp at h, fun i t h => by simp at h, fun i t h => by simp at h⟩
theorem Copied.on {w w' : World} {lo : Nat} {v : Value} {L : List VT} {j : Nat} {E : List (VT × Value × Value)} (h : Copied w lo v L j E) (hb : Below w.heap.size w w') : Copied w' lo v L j E := by
 have := hb.size
 exact ⟨h.1, h.2.1, ownsRow_below h.2.2.1 hb, fun e he => (h.2.2.2 e he).onto (fun k hk => hb.block k hk.2.1) (fun k hk => ⟨hk.1, by omega, hk.2.2⟩)⟩
theorem own_base5 {w : World} {base base' : Nat} {ty : TypeId} {k n : Nat} {v : Value} {xs : List Value} (h : w.ownsRow base ty k v n xs) (hb : base' ≤ base) : w.ownsRow base' ty k v n xs := by
 refine ⟨h.1, ?_⟩
 rcases h.2 with h1 | ⟨g, cap, cur, h1, h2, h3⟩
 ·exact Or.inl h1
 ·exact Or.inr ⟨g, cap, cur, h1, Nat.le_trans hb h2, h3⟩
theorem Copied.wide {w : World} {lo lo' : Nat} {v : Value} {L : List VT} {j : Nat} {E : List (VT × Value × Value)} (h : Copied w lo v L j E) (hl : lo' ≤ lo) : Copied w lo' v L j E :=
 ⟨h.1, h.2.1, own_base5 h.2.2.1 hl, fun e he => (h.2.2.2 e he).onto (fun _ _ => rfl) (fun k hk => ⟨by omega, hk.2⟩)⟩
theorem HS.on {w w' : World} {lo hi : Nat} {T : VT} {x y : Value} (h : HS w (fun k => lo ≤ k ∧ k < w.heap.size) T x y) (hb : Below w.heap.size w w') (hl : hi ≤ lo) : HS w' (fun k => hi ≤ k ∧ k < w'.heap.size) T x y := by
 have := hb.size
 exact h.onto (fun k hk => hb.block k hk.2) (fun k hk => ⟨by omega, by omega⟩)
structure Sb (wr : World) (b : Nat) (s : PStep) : Prop where
 c0 : wr.cell? ⟨b, 0, none⟩ = some (.string s.key)
 c1 : wr.cell? ⟨b, 1, none⟩ = some (.int .i64 s.at_)
 c2 : wr.cell? ⟨b, 2, none⟩ = some (.bool s.place)
theorem Sb.onto {wr wr' : World} {b : Nat} {s : PStep} (h : Sb wr b s) (hb : Below wr.heap.size wr wr') : Sb wr' b s := ⟨keepCell hb h.c0, keepCell hb h.c1, keepCell hb h.c2⟩
end Go.Proofs.YteimbjamnfkapaaGreatDoor
/- unflat: values and pairs laid into slices of one's own, put in order. -/
namespace Go.Proofs.YteimbjamnfkapaaGreatDoor
open Go.RowKit Go.Maps Go.Shelf Go.Sort
theorem made_flat (z : List Value) (m n : Nat) (hm : z.length = m) (h0 : 0 < m) : (madeCells z.toArray (n * m)).toList = (List.replicate n ()).flatMap fun _ => z := by
 apply List.ext_getElem?
 intro i
 rcases Nat.lt_or_ge i (n * m) with hi | hi
 ·have hq : i / m < n := (Nat.div_lt_iff_lt_mul h0).2 hi
  have e : i / m * m + i % m = i := by have := Nat.div_add_mod i m; rw [Nat.mul_comm] at this; exact this
  have h1 := flat_at (fun _ : Unit => z) m (fun _ => hm) (List.replicate n ()) (i / m) (i % m) () (by rw [List.getElem?_replicate, if_pos hq]) (Nat.mod_lt _ h0)
  rw [e] at h1
  rw [h1]
  unfold madeCells
  rw [Array.getElem?_toList, Array.getElem?_map]
  rw [show (Array.range (n * m))[i]? = some i by simp [hi]]
  simp only [Option.map_some, List.size_toArray, hm]
  have hlt : i % m < z.length := by rw [hm]; exact Nat.mod_lt _ h0
  rw [List.getElem?_eq_getElem hlt, getElem!_pos _ _ (by simpa using hlt)]
  simp
 ·rw [List.getElem?_eq_none (by rw [Array.length_toList, size_madeCells]; exact hi), List.getElem?_eq_none (by
   have : ((List.replicate n ()).flatMap fun _ => z).length = n * m := by
    clear hi
    induction n with
    | zero => simp
    | succ n ih => rw [List.replicate_succ, List.flatMap_cons, List.length_append, ih, hm, Nat.succ_mul]; omega
   rw [this]; exact hi)]
theorem rep_vc (n : Nat) (e : VT × Value × Value) : (List.replicate n ()).flatMap (fun _ => vc e) = (List.replicate n e).flatMap vc := by
 induction n with
 | zero => rfl
 | succ n ih => rw [List.replicate_succ, List.replicate_succ, List.flatMap_cons, List.flatMap_cons, ih]
theorem rep_pc (n : Nat) (e : ByteArray × VT × Value × Value) : (List.replicate n ()).flatMap (fun _ => pc e) = (List.replicate n e).flatMap pc := by
 induction n with
 | zero => rfl
 | succ n ih => rw [List.replicate_succ, List.replicate_succ, List.flatMap_cons, List.flatMap_cons, ih]
theorem vc_put : ∀ (E : List (VT × Value × Value)) (i : Nat) (e : VT × Value × Value), i < E.length →
  ((((((E.flatMap vc).set (i * 5) (.int .i64 e.1.kd)).set (i * 5 + 1) (.int .i64 e.1.nm)).set (i * 5 + 2) (.string e.1.st)).set (i * 5 + 3) e.2.1).set (i * 5 + 4) e.2.2) = (E.set i e).flatMap vc
 | [], i, e, h => by simp at h
 | a :: E, 0, e, _ => by simp [vc]
 | a :: E, i + 1, e, h => by
  have hs : ∀ (X : List Value) (j : Nat) (v : Value), ((vc a) ++ X).set (5 + j) v = vc a ++ X.set j v := fun X j v => by
   rw [List.set_append_right _ _ (by simp [vc])]
   simp [vc]
  rw [List.flatMap_cons, List.set_cons_succ, List.flatMap_cons, show (i + 1) * 5 = 5 + i * 5 by omega, show 5 + i * 5 + 1 = 5 + (i * 5 + 1) by omega, show 5 + i * 5 + 2 = 5 + (i * 5 + 2) by omega, show 5 + i * 5 + 3 = 5 + (i * 5 + 3) by omega, show 5 + i * 5 + 4 = 5 + (i * 5 + 4) by omega, hs, hs, hs, hs, hs, vc_put E i e (by simpa using h)]
theorem pc_put : ∀ (E : List (ByteArray × VT × Value × Value)) (i : Nat) (e : ByteArray × VT × Value × Value), i < E.length →
  (((((((E.flatMap pc).set (i * 6) (.string e.1)).set (i * 6 + 1) (.int .i64 e.2.1.kd)).set (i * 6 + 2) (.int .i64 e.2.1.nm)).set (i * 6 + 3) (.string e.2.1.st)).set (i * 6 + 4) e.2.2.1).set (i * 6 + 5) e.2.2.2) = (E.set i e).flatMap pc
 | [], i, e, h => by simp at h
 | a :: E, 0, e, _ => by simp [pc]
 | a :: E, i + 1, e, h => by
  have hs : ∀ (X : List Value) (j : Nat) (v : Value), ((pc a) ++ X).set (6 + j) v = pc a ++ X.set j v := fun X j v => by
   rw [List.set_append_right _ _ (by simp [pc])]
   simp [pc]
  rw [List.flatMap_cons, List.set_cons_succ, List.flatMap_cons, show (i + 1) * 6 = 6 + i * 6 by omega, show 6 + i * 6 + 1 = 6 + (i * 6 + 1) by omega, show 6 + i * 6 + 2 = 6 + (i * 6 + 2) by omega, show 6 + i * 6 + 3 = 6 + (i * 6 + 3) by omega, show 6 + i * 6 + 4 = 6 + (i * 6 + 4) by omega, show 6 + i * 6 + 5 = 6 + (i * 6 + 5) by omega, hs, hs, hs, hs, hs, hs, pc_put E i e (by simpa using h)]
def lastG (g : Nat) (w : World) : Nat → Prop := fun k => g < k ∧ k < w.heap.size
structure LnS (W wr : World) (g n : Nat) (LE : List (VT × Value × Value)) : Prop where
 bel : Below W.heap.size W wr
 lo : W.heap.size ≤ g
 gl : g < wr.heap.size
 own : wr.ownsRow W.heap.size 29 5 (.slice (some ⟨g, 0, none⟩) n n) n (LE.flatMap vc)
 len : LE.length = n
 hs : ∀ e ∈ LE, HS wr (lastG g wr) e.1 e.2.1 e.2.2
theorem LnS.onto {W wr w' : World} {g n : Nat} {LE : List (VT × Value × Value)} (h : LnS W wr g n LE) (hb : Below wr.heap.size wr w') : LnS W w' g n LE :=
 ⟨vonto h.bel hb, h.lo, Nat.lt_of_lt_of_le h.gl hb.size, ownsRow_below h.own hb, h.len, fun e he => (h.hs e he).onto (fun k hk => hb.block k hk.2) (fun _ hk => ⟨hk.1, Nat.lt_of_lt_of_le hk.2 hb.size⟩)⟩
theorem LnS.new (W wr : World) (hb : Below W.heap.size W wr) (n : Nat) (hn : n ≤ 1000000) : LnS W (wr.alloc (.cells (madeCells #[.int .i64 0, .int .i64 0, .string ⟨#[]⟩, .slice none 0 0, .slice none 0 0] (n * 5)) 29)) wr.heap.size n (List.replicate n (zeroT, .slice none 0 0, .slice none 0 0)) := by
 have hs := hb.size
 refine ⟨vonto hb (valloc_bel (Below.refl _ _) _), hs, by simp, ?_, by simp, fun e he => ?_⟩
 ·have := World.ownsRow_lit (e := 29) (size := 5) (base := W.heap.size) wr (madeCells #[.int .i64 0, .int .i64 0, .string ⟨#[]⟩, .slice none 0 0, .slice none 0 0] (n * 5)) n hs (by unfold maxLen; omega) (by rw [size_madeCells])
  rw [made_flat [.int .i64 0, .int .i64 0, .string ⟨#[]⟩, .slice none 0 0, .slice none 0 0] 5 n rfl (by decide)] at this
  rw [← rep_vc]
  exact this
 ·obtain ⟨-, rfl⟩ := List.mem_replicate.1 he
  exact hs_zero _ _
theorem LnS.set {W wr : World} {g n : Nat} {LE : List (VT × Value × Value)} (h : LnS W wr g n LE) {i : Nat} (hi : i < n) {T : VT} {x y : Value} (hT : HS wr (lastG g wr) T x y) : LnS W (put5 wr g (i * 5) (.int .i64 T.kd) (.int .i64 T.nm) (.string T.st) x y) g n (LE.set i (T, x, y)) := by
 have hl := h.len
 refine ⟨put5_bel h.bel h.lo, h.lo, by rw [put5_size]; exact h.gl, ?_, by rw [List.length_set]; exact hl, fun e he => ?_⟩
 ·have h1 := ((((((h.own.stored (i * 5) (.int .i64 T.kd)).1).stored (i * 5 + 1) (.int .i64 T.nm)).1.stored (i * 5 + 2) (.string T.st)).1.stored (i * 5 + 3) x).1.stored (i * 5 + 4) y).1
  rw [vc_put LE i (T, x, y) (by omega)] at h1
  exact h1
 ·have key : ∀ {U : VT} {a b : Value}, HS wr (lastG g wr) U a b → HS (put5 wr g (i * 5) (.int .i64 T.kd) (.int .i64 T.nm) (.string T.st) x y) (lastG g (put5 wr g (i * 5) (.int .i64 T.kd) (.int .i64 T.nm) (.string T.st) x y)) U a b := fun hU =>
   hU.onto (fun k hk => put5_heap _ _ _ _ _ _ _ _ _ (by have := hk.1; omega)) (fun _ hk => ⟨hk.1, by rw [put5_size]; exact hk.2⟩)
  rcases List.mem_or_eq_of_mem_set he with he | rfl
  ·exact key (h.hs e he)
  ·exact key hT
theorem LnS.cell {W wr : World} {g n : Nat} {LE : List (VT × Value × Value)} (h : LnS W wr g n LE) {i c : Nat} (hi : i < n) (hc : c < 5) : ∃ u, wr.cell? ⟨g, i * 5 + c, none⟩ = some u := by
 have hl := h.len
 obtain ⟨e, he⟩ : ∃ e, LE[i]? = some e := ⟨LE[i], List.getElem?_eq_getElem (by omega)⟩
 rw [h.own.cellAt (i * 5 + c) (by omega), flat_at vc 5 (fun _ => rfl) LE i c e he hc]
 exact ⟨_, List.getElem?_eq_getElem (by show c < 5; exact hc)⟩
theorem LnS.ls {W wr : World} {g n : Nat} {LE : List (VT × Value × Value)} (h : LnS W wr g n LE) : LS wr (fun k => W.heap.size ≤ k ∧ k < wr.heap.size) (LE.map (·.1)) (.slice (some ⟨g, 0, none⟩) n n) := by
 have hl := h.len
 subst hl
 refine own_ls h.own (fun e he => (h.hs e he).onto (fun _ _ => rfl) (fun _ hk => ⟨by have := hk.1; have := h.lo; omega, hk.2⟩)) (fun g' hg' => ?_)
 have : g = g' := by simpa [Value.ownBlock] using hg'
 subst this
 exact ⟨h.lo, h.gl⟩
structure PnS (W wr : World) (g n : Nat) (D : List (ByteArray × VT × Value × Value)) : Prop where
 bel : Below W.heap.size W wr
 lo : W.heap.size ≤ g
 gl : g < wr.heap.size
 own : wr.ownsRow W.heap.size 60 6 (.slice (some ⟨g, 0, none⟩) n n) n (D.flatMap pc)
 len : D.length = n
 hs : ∀ e ∈ D, e.1.size ≤ maxLen ∧ HS wr (lastG g wr) e.2.1 e.2.2.1 e.2.2.2
theorem PnS.onto {W wr w' : World} {g n : Nat} {D : List (ByteArray × VT × Value × Value)} (h : PnS W wr g n D) (hb : Below wr.heap.size wr w') : PnS W w' g n D :=
 ⟨vonto h.bel hb, h.lo, Nat.lt_of_lt_of_le h.gl hb.size, ownsRow_below h.own hb, h.len, fun e he => ⟨(h.hs e he).1, (h.hs e he).2.onto (fun k hk => hb.block k hk.2) (fun _ hk => ⟨hk.1, Nat.lt_of_lt_of_le hk.2 hb.size⟩)⟩⟩
theorem PnS.new (W wr : World) (hb : Below W.heap.size W wr) (n : Nat) (hn : n ≤ 1000000) : PnS W (wr.alloc (.cells (madeCells #[.string ⟨#[]⟩, .int .i64 0, .int .i64 0, .string ⟨#[]⟩, .slice none 0 0, .slice none 0 0] (n * 6)) 60)) wr.heap.size n (List.replicate n (⟨#[]⟩, zeroT, .slice none 0 0, .slice none 0 0)) := by
 have hs := hb.size
 refine ⟨vonto hb (valloc_bel (Below.refl _ _) _), hs, by simp, ?_, by simp, fun e he => ?_⟩
 ·have := World.ownsRow_lit (e := 60) (size := 6) (base := W.heap.size) wr (madeCells #[.string ⟨#[]⟩, .int .i64 0, .int .i64 0, .string ⟨#[]⟩, .slice none 0 0, .slice none 0 0] (n * 6)) n hs (by unfold maxLen; omega) (by rw [size_madeCells])
  rw [made_flat [.string ⟨#[]⟩, .int .i64 0, .int .i64 0, .string ⟨#[]⟩, .slice none 0 0, .slice none 0 0] 6 n rfl (by decide)] at this
  rw [← rep_pc]
  exact this
 ·obtain ⟨-, rfl⟩ := List.mem_replicate.1 he
  exact ⟨by decide, hs_zero _ _⟩
theorem PnS.set {W wr : World} {g n : Nat} {D : List (ByteArray × VT × Value × Value)} (h : PnS W wr g n D) {i : Nat} (hi : i < n) {c : ByteArray} {T : VT} {x y : Value} (hc : c.size ≤ maxLen) (hT : HS wr (lastG g wr) T x y) : PnS W (put6 wr g (i * 6) (.string c) (.int .i64 T.kd) (.int .i64 T.nm) (.string T.st) x y) g n (D.set i (c, T, x, y)) := by
 have hl := h.len
 refine ⟨vset_bel (vset_bel (vset_bel (vset_bel (vset_bel (vset_bel h.bel h.lo) h.lo) h.lo) h.lo) h.lo) h.lo, h.lo, by rw [put6_size]; exact h.gl, ?_, by rw [List.length_set]; exact hl, fun e he => ?_⟩
 ·have h1 := (((((((h.own.stored (i * 6) (.string c)).1).stored (i * 6 + 1) (.int .i64 T.kd)).1.stored (i * 6 + 2) (.int .i64 T.nm)).1.stored (i * 6 + 3) (.string T.st)).1.stored (i * 6 + 4) x).1.stored (i * 6 + 5) y).1
  rw [pc_put D i (c, T, x, y) (by omega)] at h1
  exact h1
 ·have key : ∀ {U : VT} {a b : Value}, HS wr (lastG g wr) U a b → HS (put6 wr g (i * 6) (.string c) (.int .i64 T.kd) (.int .i64 T.nm) (.string T.st) x y) (lastG g (put6 wr g (i * 6) (.string c) (.int .i64 T.kd) (.int .i64 T.nm) (.string T.st) x y)) U a b := fun hU =>
   hU.onto (fun k hk => put6_heap _ _ _ _ _ _ _ _ _ _ (by have := hk.1; omega)) (fun _ hk => ⟨hk.1, by rw [put6_size]; exact hk.2⟩)
  rcases List.mem_or_eq_of_mem_set he with he | rfl
  ·exact ⟨(h.hs e he).1, key (h.hs e he).2⟩
  ·exact ⟨hc, key hT⟩
theorem PnS.cell {W wr : World} {g n : Nat} {D : List (ByteArray × VT × Value × Value)} (h : PnS W wr g n D) {i c : Nat} (hi : i < n) (hc : c < 6) : ∃ u, wr.cell? ⟨g, i * 6 + c, none⟩ = some u := by
 have hl := h.len
 obtain ⟨e, he⟩ : ∃ e, D[i]? = some e := ⟨D[i], List.getElem?_eq_getElem (by omega)⟩
 rw [h.own.cellAt (i * 6 + c) (by omega), flat_at pc 6 (fun _ => rfl) D i c e he hc]
 exact ⟨_, List.getElem?_eq_getElem (by show c < 6; exact hc)⟩
set_option maxRecDepth 100000 in
set_option maxHeartbeats 400000 in
theorem lit_un (x y : PE) (W : World) : Calls Tryz.prog 96 #[.agg (encP x).toArray, .agg (encP y).toArray] W fun e w' => e = .returned (.int .i64 (cfP x y)) ∧ ∃ q os', w' = grow (W.drewN q) os' := by
 have hcon := hid (fun W' => Tryz.strings_Compare x.1 y.1 W')
 have HR := hid (show cfP x y = Lib.compareBytes x.1.data.toList y.1.data.toList from rfl)
 generalize Lib.compareBytes x.1.data.toList y.1.data.toList = r at hcon HR
 obtain ⟨c, k, n, s, ⟨o1, n1, c1⟩, ⟨o2, n2, c2⟩⟩ := x
 obtain ⟨c', k', n', s', ⟨o1', n1', c1'⟩, ⟨o2', n2', c2'⟩⟩ := y
 simp only [encP] at hcon HR ⊢
 go_enter Tryz.func96, Tryz.ntmps96
 go_wp2_with (go_at_call 97; go_must (refine (hcon.out _).mono ?_; rintro e w' ⟨rfl, rfl⟩))
 go_ret
 exact ⟨ret_int HR.out.symm, 0, _, by rw [alloc_eq_grow, alloc_eq_grow, grow_grow]; rfl⟩
theorem sortu_any {W wr : World} {g n : Nat} {D : List (ByteArray × VT × Value × Value)} (h : PnS W wr g n D) (hl : n ≤ 1000000) :
  Calls Tryz.prog 95 #[.slice (some ⟨g, 0, none⟩) n n, .func (.func 96) #[] #[]] wr fun e w' => e = .returned (.tuple #[]) ∧ ∃ D' : List (ByteArray × VT × Value × Value), D'.Perm D ∧ (∀ (i j : Nat) (a b : ByteArray × VT × Value × Value), i < j → D'[i]? = some a → D'[j]? = some b → ltB b.1.data.toList a.1.data.toList = false) ∧ MS w' (fun k => W.heap.size ≤ k ∧ k < w'.heap.size) (D'.map (·.1)) (D'.map (·.2.1)) (.slice (some ⟨g, 0, none⟩) n n) ∧ Below W.heap.size W w' ∧ Chg g (g + 1) wr w' := by
 have hlen := h.len
 obtain ⟨P, hP⟩ : ∃ P : List (PE × (ByteArray × VT × Value × Value)), P = D.map fun e => (peOf e.1 e.2.1 e.2.2.1 e.2.2.2, e) := ⟨_, rfl⟩
 have hPe : ∀ x ∈ P, encP x.1 = pc x.2 ∧ x.1.1 = x.2.1 := fun x hx => by
  rw [hP] at hx
  obtain ⟨e, he, rfl⟩ := List.mem_map.1 hx
  obtain ⟨o1, n1, c1, o2, n2, c2, h1, h2⟩ := hv_slices (h.hs e he).2.hv
  refine ⟨?_, rfl⟩
  show encP (peOf e.1 e.2.1 e.2.2.1 e.2.2.2) = pc e
  rw [h1, h2, enc_pe]
  unfold pc
  rw [h1, h2]
 have hP2 : P.map (·.2) = D := by rw [hP, List.map_map]; exact List.map_id _
 have hPl : P.length = n := by rw [← hlen, ← hP2, List.length_map]
 have flat : ∀ (Q : List (PE × (ByteArray × VT × Value × Value))), (∀ x ∈ Q, encP x.1 = pc x.2) → ∀ (i c : Nat) (x : PE × (ByteArray × VT × Value × Value)), Q[i]? = some x → c < 6 → ((Q.map (·.2)).flatMap pc)[i * 6 + c]? = some (encP x.1)[c]! := fun Q hQ i c x hx hc => by
  rw [flat_at pc 6 (fun _ => rfl) _ i c x.2 (by rw [List.getElem?_map, hx]; rfl) hc, ← hQ x (List.mem_of_getElem? hx), List.getElem?_eq_getElem (by rw [enc_len]; exact hc), getElem!_pos _ _ (by rw [enc_len]; exact hc)]
 have hsz : ((P.map (·.1)).toArray).size = n := by simp [hPl]
 have hH : HoldsK encP 6 wr g 0 (P.map (·.1)).toArray := by
  intro j hj
  have hj' : j < n * 6 := by
   have e : (flatK encP 6 (P.map (·.1)).toArray).size = n * 6 := by rw [size_flatK, hsz]
   omega
  have hq : j / 6 < n := (Nat.div_lt_iff_lt_mul (by decide)).2 hj'
  obtain ⟨x, hx⟩ : ∃ x, P[j / 6]? = some x := ⟨P[j / 6]'(by omega), List.getElem?_eq_getElem _⟩
  have e0 : j / 6 * 6 + j % 6 = j := by omega
  have h1 := flat P (fun x hx => (hPe x hx).1) (j / 6) (j % 6) x hx (Nat.mod_lt _ (by decide))
  rw [e0, hP2] at h1
  rw [Nat.zero_add]
  refine ⟨?_, h.own.frozenAt j⟩
  rw [h.own.cellAt j (by omega), h1, get_flatK encP 6 (P.map (·.1)).toArray j (by rw [hsz]; exact hj')]
  have h2 : (P.map (·.1)).toArray[j / 6]! = x.1 := by
   have : (P.map (·.1)).toArray[j / 6]? = some x.1 := by rw [List.getElem?_toArray, List.getElem?_map, hx]; rfl
   rw [getElem!_def, this]
  rw [h2]; rfl
 have eg : ∀ args w, (callFunc 96 args).run Tryz.prog w = .ok (.enter 96 args) w := enters_of Tryz.func96 (by kernel_rfl) rfl
 have hcon := AnyQ.slices_SortFunc Tryz.laysSort 6 Tryz.isAgg60 Tryz.sizeOf60 encP enc_len enc_one cfP swoP 96 #[] g 0 n (P.map (·.1)).toArray wr eg (fun _ _ _ _ x y => lit_un x y _) hH h.gl (by omega)
 rw [hsz] at hcon
 refine Calls.mono hcon ?_
 rintro e w' ⟨he, d', n', os, hp, hs, rfl⟩
 have hp1 : d'.size = (P.map (·.1)).toArray.size := hp.1
 have hperm : d'.toList.Perm (P.map (·.1)) := by
  have := hp.2.2
  rw [← hsz] at this
  have hx : ∀ d : Array PE, d.extract 0 d.size = d := fun d => by simp
  rw [show d'.extract 0 (P.map (·.1)).toArray.size = d' by rw [← hp1, hx], hx] at this
  exact this
 obtain ⟨D', h1, h2⟩ := perm_lift (fun x : PE × (ByteArray × VT × Value × Value) => x.1) hperm P rfl
 have hch := chg_sort wr g 0 n' d' os
 have hhold := holdsK_sortWorldK_c encP 6 wr g 0 _ d' n' os hH h.gl hp1
 have hD'P : (D'.map (·.2)).Perm D := by rw [← hP2]; exact h1.map _
 have hsz' : wr.heap.size ≤ (sortWorldK encP 6 wr g 0 n' d' os).heap.size := hch.size
 have hat : ∀ (i : Nat) (x : PE × (ByteArray × VT × Value × Value)), D'[i]? = some x → d'[i]! = x.1 := by
  intro i x hx
  have : d'.toList[i]? = some x.1 := by rw [← h2, List.getElem?_map, hx]; rfl
  rw [Array.getElem?_toList] at this
  rw [getElem!_def, this]
 have hDl : D'.length = n := by rw [h1.length_eq, hPl]
 have hE' : ∀ x ∈ D', encP x.1 = pc x.2 ∧ x.1.1 = x.2.1 := fun x hx => hPe x (h1.subset hx)
 have hH' : ∀ x ∈ D', x.2.1.size ≤ maxLen ∧ HS (sortWorldK encP 6 wr g 0 n' d' os) (fun k => W.heap.size ≤ k ∧ k < (sortWorldK encP 6 wr g 0 n' d' os).heap.size) x.2.2.1 x.2.2.2.1 x.2.2.2.2 := fun x hx => by
  obtain ⟨q1, q2⟩ := h.hs x.2 (hD'P.subset (List.mem_map.2 ⟨x, hx, rfl⟩))
  exact ⟨q1, q2.onto (fun k hk => hch.block k hk.2 (by have := hk.1; omega)) (fun k hk => ⟨by have := hk.1; have := h.lo; omega, Nat.lt_of_lt_of_le hk.2 hsz'⟩)⟩
 have key : ∀ (i : Nat) (x : PE × (ByteArray × VT × Value × Value)), D'[i]? = some x → ∀ (c : Nat) (u : Value), (pc x.2)[c]? = some u → (sortWorldK encP 6 wr g 0 n' d' os).cell? ⟨g, i * 6 + c, none⟩ = some u := fun i x hx c u hu => by
  have hi := lt_of_some hx
  have hc : c < 6 := lt_of_some hu
  have := (hhold.cell (i := i) (c := c) (by rw [hp1, hsz]; omega) hc).1
  rw [Nat.zero_add, hat i x hx, (hE' x (List.mem_of_getElem? hx)).1] at this
  rw [this, getElem!_def, hu]
 refine ⟨he, D'.map (·.2), hD'P, fun i j a b hij ha hb => ?_, ⟨⟨g, 0, none⟩, fun i => ((D'[i]?).map (·.2.2.2.1)).getD .nilIface, fun i => ((D'[i]?).map (·.2.2.2.2)).getD .nilIface, ⟨_, n, by rw [List.length_map, List.length_map, hDl], by rw [List.length_map, List.length_map]; omega, by unfold maxLen; omega, fun _ => rfl⟩, by simp, fun _ => ⟨h.lo, Nat.lt_of_lt_of_le h.gl hsz'⟩, fun i u hu => ?_, fun i t ht => ?_, fun i t ht => ?_⟩, h.bel.trans (hch.below h.lo h.bel.size), hch⟩
 ·rw [List.getElem?_map] at ha hb
  obtain ⟨x, hx, rfl⟩ := Option.map_eq_some_iff.1 ha
  obtain ⟨y, hy, rfl⟩ := Option.map_eq_some_iff.1 hb
  have hlt : j < n := by have := lt_of_some hy; omega
  have := hs i j (Nat.zero_le _) hij hlt
  rw [hat i x hx, hat j y hy, ltP] at this
  rw [← (hE' x (List.mem_of_getElem? hx)).2, ← (hE' y (List.mem_of_getElem? hy)).2]
  exact this
 ·rw [List.getElem?_map, List.getElem?_map] at hu
  obtain ⟨e, he1, rfl⟩ := Option.map_eq_some_iff.1 hu
  obtain ⟨x, hx, rfl⟩ := Option.map_eq_some_iff.1 he1
  rw [add_at]
  have := key i x hx 0 _ rfl
  rw [Nat.add_zero] at this
  exact ⟨this, (hH' x (List.mem_of_getElem? hx)).1⟩
 ·rw [List.getElem?_map, List.getElem?_map] at ht
  obtain ⟨e, he1, rfl⟩ := Option.map_eq_some_iff.1 ht
  obtain ⟨x, hx, rfl⟩ := Option.map_eq_some_iff.1 he1
  simp only [hx, Option.map_some, Option.getD_some]
  rw [add_at]
  exact ⟨key i x hx 1 _ rfl, key i x hx 2 _ rfl, key i x hx 3 _ rfl, key i x hx 4 _ rfl, key i x hx 5 _ rfl⟩
 ·rw [List.getElem?_map, List.getElem?_map] at ht
  obtain ⟨e, he1, rfl⟩ := Option.map_eq_some_iff.1 ht
  obtain ⟨x, hx, rfl⟩ := Option.map_eq_some_iff.1 he1
  simp only [hx, Option.map_some, Option.getD_some]
  exact (hH' x (List.mem_of_getElem? hx)).2
end Go.Proofs.YteimbjamnfkapaaGreatDoor
/- Plain mathematics of the tree that has grown: a list's node, a map's node. -/
namespace Go.Proofs.YteimbjamnfkapaaGreatDoor
open Go.RowKit
theorem Grown.list_sub {l : Lvs} {X : List (List PStep)} {N : List Nd} {M : List ((Nat × PStep) × Nat)} (h : Grown l X N M) {a : Nat} {n : Nd} {q : List PStep} (hn : N[a]? = some n) (hq : X[a]? = some q) (hs : n.sh = 2) (hw : Well N n) {L : List VT} (hlen : L.length = n.ps.length) (hL : ∀ b ∈ n.ps, ∃ t, L[plN N b]? = some t ∧ SubOf l (q ++ [lpl (plN N b)]) t) : SubOf l q (.mk 5 0 ⟨#[]⟩ L [] []) := by
 have hne := h.ps_ne hn hq (by rw [hs]; decide)
 refine sub_list (fun e => hne (List.eq_nil_of_length_eq_zero (by rw [← hlen, e]; rfl))) (fun i t hi => ?_) (fun r t hr hin => ?_)
 ·have hA := lt_full (h.pl_nodup hn hq hs) (fun x hx => by
   obtain ⟨b, hb, rfl⟩ := List.mem_map.1 hx
   rw [List.length_map]; exact hw hs b hb) i (by rw [List.length_map, ← hlen]; exact lt_of_some hi)
  obtain ⟨b, hb, rfl⟩ := List.mem_map.1 hA
  obtain ⟨t', h1, h2⟩ := hL b hb
  rw [hi] at h1; injection h1 with h1; subst h1
  exact h2
 ·have hk := h.kind hn hq hin (r := r) rfl
  rw [hs] at hk
  cases r with
  | nil => cases hk
  | cons s r =>
   obtain ⟨b, hb, nb, h1, h2, h3⟩ := h.has hn hq hin (s := s) (r := r) rfl
   obtain ⟨nb', h4, -, h5⟩ := h.place hn hq hs hb
   rw [h1] at h4; injection h4 with h4; subst h4
   exact ⟨plN N b, r, by rw [← h3, h5], by rw [hlen]; exact hw hs b hb⟩
theorem Grown.key {l : Lvs} {X : List (List PStep)} {N : List Nd} {M : List ((Nat × PStep) × Nat)} (h : Grown l X N M) {a : Nat} {n : Nd} {q : List PStep} (hn : N[a]? = some n) (hq : X[a]? = some q) (hs : n.sh = 3) {b : Nat} (hb : b ∈ n.ps) : ∃ nb, N[b]? = some nb ∧ X[b]? = some (q ++ [lky nb.st.key]) ∧ nb.st = lky nb.st.key := by
 obtain ⟨nb, h1, h2, h3, h4, -⟩ := h.part hn hq hb
 rw [hs] at h4
 rcases h3.cases with ⟨i, hi⟩ | ⟨c, hc⟩
 ·rw [hi] at h4; cases h4
 ·have : nb.st = lky nb.st.key := by rw [hc]; rfl
  exact ⟨nb, h1, by rw [← this]; exact h2, this⟩
theorem Grown.map_sub {l : Lvs} {X : List (List PStep)} {N : List Nd} {M : List ((Nat × PStep) × Nat)} (h : Grown l X N M) {a : Nat} {n : Nd} {q : List PStep} (hn : N[a]? = some n) (hq : X[a]? = some q) (hs : n.sh = 3) {K : List ByteArray} {V : List VT} (hlen : K.length = V.length) (hst : Strict K) (hK : ∀ (j : Nat) (c : ByteArray) (t : VT), K[j]? = some c → V[j]? = some t → SubOf l (q ++ [lky c]) t)
  (hall : ∀ b ∈ n.ps, ∀ nb, N[b]? = some nb → nb.st.key ∈ K) : SubOf l q (.mk 6 0 ⟨#[]⟩ [] K V) := by
 have hne := h.ps_ne hn hq (by rw [hs]; decide)
 obtain ⟨b0, t0, hps⟩ := List.exists_cons_of_ne_nil hne
 obtain ⟨nb0, hb0, -⟩ := h.key hn hq hs (b := b0) (by rw [hps]; simp)
 have hk0 := hall b0 (by rw [hps]; simp) nb0 hb0
 have hKne : K ≠ [] := fun e => by rw [e] at hk0; simp at hk0
 refine sub_map (fun e => hKne (List.eq_nil_of_length_eq_zero (by rw [hlen, e]; rfl))) hlen hst hK (fun r t hr hin => ?_)
 have hk := h.kind hn hq hin (r := r) rfl
 rw [hs] at hk
 cases r with
 | nil => cases hk
 | cons s r =>
  obtain ⟨b, hb, nb, h1, h2, h3⟩ := h.has hn hq hin (s := s) (r := r) rfl
  obtain ⟨nb', h4, -, h5⟩ := h.key hn hq hs hb
  rw [h1] at h4; injection h4 with h4; subst h4
  exact ⟨nb.st.key, r, by rw [← h3, ← h5], hall b hb nb h1⟩
theorem strict_of {K : List ByteArray} (hd : K.Nodup) (ho : ∀ (i j : Nat) (a b : ByteArray), i < j → K[i]? = some a → K[j]? = some b → ltB b.data.toList a.data.toList = false) : Strict K := fun i j a b hij hi hj => by
 rcases ltB_tri a.data.toList b.data.toList with ⟨h1, -, -⟩ | h1 | ⟨-, h1, -⟩
 ·exact h1
 ·exfalso
  have e : a = b := ba_eq h1
  subst e
  have := (List.getElem?_inj (lt_of_some hi) hd).1 (hi.trans hj.symm)
  omega
 ·have := ho i j a b hij hi hj
  rw [h1] at this; cases this
theorem Grown.keys_nodup {l : Lvs} {X : List (List PStep)} {N : List Nd} {M : List ((Nat × PStep) × Nat)} (h : Grown l X N M) {a : Nat} {n : Nd} {q : List PStep} (hn : N[a]? = some n) (hq : X[a]? = some q) (hs : n.sh = 3) {K : List ByteArray} (hl : K.length = n.ps.length) (hK : ∀ (i b : Nat), n.ps[i]? = some b → ∃ nb, N[b]? = some nb ∧ K[i]? = some nb.st.key) : K.Nodup := by
 refine List.pairwise_iff_getElem.2 (fun i j hi' hj hij he0 => ?_)
 have he : K[i]? = K[j]? := by rw [List.getElem?_eq_getElem hi', List.getElem?_eq_getElem hj, he0]
 have hps := (h.tri.ps a n q hn hq).1
 obtain ⟨b, hb⟩ : ∃ b, n.ps[i]? = some b := ⟨n.ps[i]'(by omega), List.getElem?_eq_getElem _⟩
 obtain ⟨c, hc⟩ : ∃ c, n.ps[j]? = some c := ⟨n.ps[j]'(by omega), List.getElem?_eq_getElem _⟩
 obtain ⟨nb, h1, h2⟩ := hK i b hb
 obtain ⟨nc, h3, h4⟩ := hK j c hc
 obtain ⟨nb', h5, h6, -⟩ := h.key hn hq hs (List.mem_of_getElem? hb)
 obtain ⟨nc', h7, h8, -⟩ := h.key hn hq hs (List.mem_of_getElem? hc)
 rw [h1] at h5; injection h5 with h5; subst h5
 rw [h3] at h7; injection h7 with h7; subst h7
 rw [h2, h4] at he
 injection he with he
 rw [he] at h6
 have := ix_inj h.tri.nd h6 h8
 subst this
 have := (List.getElem?_inj (lt_of_some hb) hps).1 (hb.trans hc.symm)
 omega
end Go.Proofs.YteimbjamnfkapaaGreatDoor
