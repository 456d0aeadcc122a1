/- Plain mathematics: a cell for each value, a value for each cell. -/
import Derived.Test.YtadbeodeiijhdaaGreatDoorFPathFind
import Derived.Test.YtadbeodeiijhdaaGreatDoorFMathFl
import Derived.Test.YtadbeodeiijhdaaGreatDoorFVCopyAll
import Derived.Test.YtadbeodeiijhdaaGreatDoorFVPlus
import Derived.Test.YtadbeodeiijhdaaGreatDoorFOrders
/- flat: the walk through a tree: what it holds in memory; a part entered. -/
namespace Go.Proofs.YtadbeodeiijhdaaGreatDoor
open Go.RowKit

/-- a leaf that was told: its path, its tree, the path's slice, its own two -/
structure LE where
  p : List PStep
  T : VT
  u : Value
  x : Value
  y : Value
def LE.pt (e : LE) : List PStep × VT := (e.p, e.T)
def lcE (e : LE) : List Value := [e.u, .int .i64 e.T.kd, .int .i64 e.T.nm, .string e.T.st, e.x, e.y]
/-- a tree without parts, wherever it is -/
def Bare (e : LE) : Prop := (e.T.ls = [] ∧ e.T.vs = []) ∧ ∀ w, HV w e.T e.x e.y
theorem hv_bare {w w' : World} {T : VT} {x y : Value} (h : HV w T x y) (h1 : T.ls = []) (h2 : T.vs = []) : HV w' T x y := by
  cases h with
  | mk a b f g p q hk hn hs hL hM hK cL cK cM rL rM =>
    simp only [VT.ls, VT.vs] at h1 h2
    subst h1 h2
    have hK0 := List.eq_nil_of_length_eq_zero hK
    subst hK0
    exact .mk a b f g p q hk hn hs hL hM hK (fun i t h => by simp at h) (fun i u h => by simp at h) (fun i t h => by simp at h) (fun i t h => by simp at h) (fun i t h => by simp at h)
/-- the walk's box: where it is now, and the paths that it came by -/
def OwnF (W w : World) (v : Value) (E : List LE) : Prop := w.ownsRow W.heap.size 37 6 v E.length (E.flatMap lcE)
structure Lk (W : World) (b : Nat) (nv pv : Value) (now : List PStep) (E : List LE) (w : World) : Prop where
  bel : Below W.heap.size W w
  lo : W.heap.size ≤ b
  box : w.heap[b]? = some (.cells #[nv, pv] 72 (0, 0))
  ns : OwnS W w nv now
  ps : OwnF W w pv E
  es : ∀ e ∈ E, OwnS W w e.u e.p ∧ (e.u.ownBlock = none ∨ e.u.ownBlock ≠ nv.ownBlock)
  bs : ∀ e ∈ E, Bare e
theorem Lk.onto {W : World} {b : Nat} {nv pv : Value} {now : List PStep} {E : List LE} {w w' : World} (h : Lk W b nv pv now E w) (hb : Below w.heap.size w w') : Lk W b nv pv now E w' :=
  ⟨vonto h.bel hb, h.lo, by rw [hb.block b (Array.getElem?_eq_some_iff.1 h.box).1]; exact h.box, ownsRow_below h.ns hb, ownsRow_below h.ps hb, fun e he => ⟨ownsRow_below (h.es e he).1 hb, (h.es e he).2⟩, h.bs⟩
theorem Lk.lt {W : World} {b : Nat} {nv pv : Value} {now : List PStep} {E : List LE} {w : World} (h : Lk W b nv pv now E w) : b < w.heap.size := (Array.getElem?_eq_some_iff.1 h.box).1
theorem lbox_set {w : World} {b : Nat} {c : Array Value} {ty : TypeId} {fz : Nat × Nat} (h : w.heap[b]? = some (.cells c ty fz)) (o : Nat) (u : Value) : (w.setCell ⟨b, o, none⟩ u).heap[b]? = some (.cells (c.setIfInBounds o u) ty fz) := by
  simp [World.setCell, Array.getElem?_modify, h]
/-- a leaf more -/
theorem Lk.more {W : World} {b : Nat} {nv pv : Value} {now : List PStep} {E : List LE} {w w3 : World} {pv' : Value} (e : LE) (h : Lk W b nv pv now E w) (hu : OwnS W w e.u e.p) (hun : e.u.ownBlock = none ∨ e.u.ownBlock ≠ nv.ownBlock) (hB : Bare e)
    (h3 : w3.ownsRow W.heap.size 37 6 pv' (E.length + 1) (E.flatMap lcE ++ lcE e)) (hg : w.grownBy w3 pv.ownBlock) : Lk W b nv pv' now (E ++ [e]) (w3.setCell ⟨b, 1, none⟩ pv') := by
  have hbne : pv.ownBlock = none ∨ pv.ownBlock ≠ some b := own_off h.ps h.box (by decide)
  have hbx : w3.heap[b]? = some (.cells #[nv, pv] 72 (0, 0)) := by
    rw [hg.block b h.lt (off_ne hbne)]
    exact h.box
  have keep : ∀ {v : Value} {q : List PStep}, OwnS W w v q → OwnS W (w3.setCell ⟨b, 1, none⟩ pv') v q := fun {v q} hv => by
    have h1 : OwnS W w3 v q := hv.kept hg (own_ne hv h.ps (by decide))
    exact h1.kept (set_grownW w3 b 1 pv') (own_off h1 hbx (by decide))
  refine ⟨?_, h.lo, by rw [lbox_set hbx]; rfl, keep h.ns, ?_, ?_, ?_⟩
  · exact vset_bel (h.bel.grown hg (by have := h.bel.size; omega) (fun q hq => (h.ps.lt q hq).1)) h.lo
  · have := h3.kept (set_grownW w3 b 1 pv') (own_off h3 hbx (by decide))
    simpa [OwnF] using this
  · intro e' he
    rcases List.mem_append.1 he with he | he
    · exact ⟨keep (h.es e' he).1, (h.es e' he).2⟩
    · simp at he; subst he; exact ⟨keep hu, hun⟩
  · intro e' he
    rcases List.mem_append.1 he with he | he
    · exact h.bs e' he
    · simp at he; subst he; exact hB
/-- a step down -/
theorem Lk.down {W : World} {b : Nat} {nv pv : Value} {now : List PStep} {E : List LE} {w w3 : World} {g cap : Nat} {s : PStep} (h : Lk W b nv pv now E w)
    (h3 : w3.ownsRow W.heap.size 76 3 (.slice (some ⟨g, 0, none⟩) (now.length + 1) cap) (now.length + 1) (now.flatMap sc ++ sc s)) (hg : w.grownBy w3 nv.ownBlock) (hw : nv.ownBlock = some g ∨ g = w.heap.size) :
    Lk W b (.slice (some ⟨g, 0, none⟩) (now.length + 1) cap) pv (now ++ [s]) E (w3.setCell ⟨b, 0, none⟩ (.slice (some ⟨g, 0, none⟩) (now.length + 1) cap)) := by
  have hbne : nv.ownBlock = none ∨ nv.ownBlock ≠ some b := own_off h.ns h.box (by decide)
  have hbx : w3.heap[b]? = some (.cells #[nv, pv] 72 (0, 0)) := by
    rw [hg.block b h.lt (off_ne hbne)]
    exact h.box
  refine ⟨?_, h.lo, by rw [lbox_set hbx]; rfl, ?_, ?_, ?_, h.bs⟩
  · exact vset_bel (h.bel.grown hg (by have := h.bel.size; omega) (fun q hq => (h.ns.lt q hq).1)) h.lo
  · have := h3.kept (set_grownW w3 b 0 (.slice (some ⟨g, 0, none⟩) (now.length + 1) cap)) (own_off h3 hbx (by decide))
    simpa [OwnS] using this
  · have h1 := h.ps.kept hg (own_ne h.ps h.ns (by decide))
    exact h1.kept (set_grownW w3 b 0 _) (own_off h1 hbx (by decide))
  · intro e he
    obtain ⟨k1, k2⟩ := h.es e he
    have k3 := k1.kept hg k2
    refine ⟨k3.kept (set_grownW w3 b 0 _) (own_off k3 hbx (by decide)), ?_⟩
    rcases hw with hw | hw
    · rw [hw] at k2; exact k2
    · exact own_neq k1 g rfl (.inr (by omega))
/-- and up again -/
theorem Lk.up {W : World} {b g cap : Nat} {pv : Value} {now : List PStep} {s : PStep} {E : List LE} {w : World} (h : Lk W b (.slice (some ⟨g, 0, none⟩) (now.length + 1) cap) pv (now ++ [s]) E w) :
    Lk W b (.slice (some ⟨g, 0, none⟩) now.length cap) pv now E (w.setCell ⟨b, 0, none⟩ (.slice (some ⟨g, 0, none⟩) now.length cap)) := by
  have hns : OwnS W w (.slice (some ⟨g, 0, none⟩) now.length cap) now := by
    rcases h.ns.2 with ⟨e, -⟩ | ⟨g', cap', cur, e, hb, hgg, h1, h2, h3, h4⟩
    · cases e
    · injection e with e1 e2 e3
      injection e1 with e1
      injection e1 with e1
      subst e1 e3
      simp only [List.length_append, List.length_singleton] at h1 h4
      refine ⟨sc_len now, .inr ⟨g, cap, cur, rfl, hb, hgg, by omega, h2, h3, ?_⟩⟩
      have := congrArg (List.take (now.length * 3)) h4
      rw [List.take_take, Nat.min_eq_left (by omega), List.flatMap_append, ← sc_len now, List.take_left] at this
      rw [← sc_len now]
      exact this
  have hbx := h.box
  refine ⟨vset_bel h.bel h.lo, h.lo, by rw [lbox_set hbx]; rfl, hns.kept (set_grownW w b 0 _) (own_off hns hbx (by decide)), h.ps.kept (set_grownW w b 0 _) (own_off h.ps hbx (by decide)), fun e he => ?_, h.bs⟩
  obtain ⟨k1, k2⟩ := h.es e he
  exact ⟨k1.kept (set_grownW w b 0 _) (own_off k1 hbx (by decide)), k2⟩
theorem lk_new (w : World) (o : Obj) : Lk w (w.heap.size + 1) (.slice none 0 0) (.slice none 0 0) [] [] ((w.alloc o).alloc (.cells #[.slice none 0 0, .slice none 0 0] 72)) := by
  refine ⟨valloc_bel (valloc_bel (Below.refl _ _) _) _, by omega, ?_, World.ownsRow_nil _ _ _ _, World.ownsRow_nil _ _ _ _, (fun e he => by simp at he), (fun e he => by simp at he)⟩
  rw [← World.size_alloc w o]
  simp only [World.alloc, Array.getElem?_push_size]
end Go.Proofs.YtadbeodeiijhdaaGreatDoor
namespace Go.Proofs.YtadbeodeiijhdaaGreatDoor
open Go.RowKit

/-- a node visited -/
def LVisitOk (W : World) (T : VT) : Prop := plainT T = true → ∀ (x y : Value) (b : Nat) (nv pv' : Value) (now : List PStep) (E : List LE) (w : World), HV W T x y → Lk W b nv pv' now E w → now.length + szT T ≤ 2000000 → E.length + szT T ≤ 2000000 →
  Calls Tryz.prog 32 #[.pointer (some ⟨b, 0, none⟩), vv T x y] w fun e w' => e = .returned (.tuple #[]) ∧ ∃ nv2 pv2 E2, Lk W b nv2 pv2 now E2 w' ∧ E2.map LE.pt = E.map LE.pt ++ lfT T now
theorem Lk.cells {W : World} {b : Nat} {nv pv' : Value} {now : List PStep} {E : List LE} {w : World} (h : Lk W b nv pv' now E w) : w.cell? ⟨b, 0, none⟩ = some nv ∧ w.cell? ⟨b, 1, none⟩ = some pv' ∧ ∀ o, w.frozen? ⟨b, o, none⟩ = false := by
  have hb := h.box
  refine ⟨?_, ?_, fun o => ?_⟩
  · rw [cell_of_row w b 0 _ _ _ hb]; rfl
  · rw [cell_of_row w b 1 _ _ _ hb]; rfl
  · simp [World.frozen?, hb]
theorem Lk.slices {W : World} {b : Nat} {nv pv' : Value} {now : List PStep} {E : List LE} {w : World} (h : Lk W b nv pv' now E w) : (∃ o c, nv = .slice o now.length c) ∧ ∃ o c, pv' = .slice o E.length c := by
  constructor
  · rcases h.ns.2 with ⟨rfl, e⟩ | ⟨g, cap, cur, rfl, -⟩
    · exact ⟨none, 0, by rw [e]⟩
    · exact ⟨_, _, rfl⟩
  · rcases h.ps.2 with ⟨rfl, e⟩ | ⟨g, cap, cur, rfl, -⟩
    · exact ⟨none, 0, by rw [e]⟩
    · exact ⟨_, _, rfl⟩
set_option maxRecDepth 100000 in
set_option maxHeartbeats 1000000 in
theorem lenter_any (W : World) (T : VT) (hV : LVisitOk W T) (s : PStep) (x y : Value) (b : Nat) (nv pv' : Value) (now : List PStep) (E : List LE) (w : World) (hP : plainT T = true) (hT : HV W T x y) (hW : Lk W b nv pv' now E w) (hn : now.length + 1 + szT T ≤ 2000000) (hE : E.length + szT T ≤ 2000000) :
    Calls Tryz.prog 62 #[.pointer (some ⟨b, 0, none⟩), pv s, vv T x y] w fun e w' => e = .returned (.tuple #[]) ∧ ∃ nv2 pv2 E2, Lk W b nv2 pv2 now E2 w' ∧ E2.map LE.pt = E.map LE.pt ++ lfT T (now ++ [s]) := by
  obtain ⟨o1, n1, c1, o2, n2, c2, rfl, rfl⟩ := hv_slices hT
  obtain ⟨i1, hi', hz0', hz1', hz2'⟩ := info_parts Tryz.infoPst
  obtain ⟨⟨on, cn, rfl⟩, ⟨op, cp, rfl⟩⟩ := hW.slices
  have HV0 := hid hV
  have HT := hid hT
  have HW := hid (fun X (hX : Below w.heap.size w X) => hW.onto hX)
  have hlt := hW.lt
  obtain ⟨key, at_, pl⟩ := s
  have hs1 : w.heap.size ≠ b := by omega
  clear hV hT hW
  simp only [vv, pv]
  go_enter Tryz.func62, Tryz.ntmps62
  go_wp2_with fail
  have hb0 : Below w.heap.size w ((w.alloc (.cells #[.string key, .int .i64 at_, .bool pl] 76)).alloc (.cells #[.int .i64 T.kd, .int .i64 T.nm, .string T.st, .slice o1 n1 c1, .slice o2 n2 c2] 26)) := valloc_bel (valloc_bel (Below.refl _ _) _) _
  have HK : Hid (∀ X, Lk W b (.slice on now.length cn) (.slice op E.length cp) now E X → Below (w.heap.size + 1) ((w.alloc (.cells #[.string key, .int .i64 at_, .bool pl] 76))) X → X.cell? ⟨b, 0, none⟩ = some (.slice on now.length cn) ∧ X.cell? ⟨w.heap.size, 0, none⟩ = some (.string key) ∧ X.cell? ⟨w.heap.size, 1, none⟩ = some (.int .i64 at_) ∧ X.cell? ⟨w.heap.size, 2, none⟩ = some (.bool pl)) := fun X h1 h2 => ⟨h1.cells.1, by rw [h2.cell (by simp)]; simp, by rw [h2.cell (by simp)]; simp, by rw [h2.cell (by simp)]; simp⟩
  have hb1 : Below (w.heap.size + 1) (w.alloc (.cells #[.string key, .int .i64 at_, .bool pl] 76)) ((w.alloc (.cells #[.string key, .int .i64 at_, .bool pl] 76)).alloc (.cells #[.int .i64 T.kd, .int .i64 T.nm, .string T.st, .slice o1 n1 c1, .slice o2 n2 c2] 26)) := (Below.refl _ _).alloc (by simp) _
  have hwk := HW.out _ hb0
  have hns := hwk.ns
  have hS0 := HK.out _ hwk hb1
  generalize hw0 : ((w.alloc (.cells #[.string key, .int .i64 at_, .bool pl] 76)).alloc (.cells #[.int .i64 T.kd, .int .i64 T.nm, .string T.st, .slice o1 n1 c1, .slice o2 n2 c2] 26)) = w0 at *
  have hsz0 : w0.heap.size = w.heap.size + 2 := by rw [← hw0]; simp
  refine wp_region_ends2 (S := fun X => X.cell? ⟨b, 0, none⟩ = some (.slice on now.length cn) ∧ X.cell? ⟨w.heap.size, 0, none⟩ = some (.string key) ∧ X.cell? ⟨w.heap.size, 1, none⟩ = some (.int .i64 at_) ∧ X.cell? ⟨w.heap.size, 2, none⟩ = some (.bool pl)) (by simp) (by kernel_rfl) (by kernel_rfl) (by kernel_rfl) (by kernel_rfl) (by kernel_rfl) (by kernel_rfl) ?_
  simp only [List.dropLast, List.getLast_cons_cons, List.getLast_singleton, List.length_cons, List.length_nil]
  replace hS0 : w0.drew.cell? ⟨b, 0, none⟩ = some (.slice on now.length cn) ∧ w0.drew.cell? ⟨w.heap.size, 0, none⟩ = some (.string key) ∧ w0.drew.cell? ⟨w.heap.size, 1, none⟩ = some (.int .i64 at_) ∧ w0.drew.cell? ⟨w.heap.size, 2, none⟩ = some (.bool pl) := hS0
  refine take_h (i := 0) (v := ?_) rfl (by kernel_rfl) (by kernel_rfl) (by kernel_rfl) (fun _ _ _ h => h) (by rfl) ?_ hS0 ?_
  rotate_left
  · (intro X hX; go_simp; try with_reducible rfl)
  simp only [Act.put, List.setIfInBounds_toArray, List.set_cons_zero, List.set_cons_succ]
  refine take_h (i := 1) (v := ?_) rfl (by kernel_rfl) (by kernel_rfl) (by kernel_rfl) (fun _ _ _ h => h) (by rfl) ?_ hS0 ?_
  rotate_left
  · (intro X hX; go_simp; try with_reducible rfl)
  simp only [Act.put, List.setIfInBounds_toArray, List.set_cons_zero, List.set_cons_succ]
  refine take_h (i := 2) (v := ?_) rfl (by kernel_rfl) (by kernel_rfl) (by kernel_rfl) (fun _ _ _ h => h) (by rfl) ?_ hS0 ?_
  rotate_left
  · (intro X hX; go_simp; try with_reducible rfl)
  simp only [Act.put, List.setIfInBounds_toArray, List.set_cons_zero, List.set_cons_succ]
  refine take_h (i := 3) (v := ?_) rfl (by kernel_rfl) (by kernel_rfl) (by kernel_rfl) (fun _ _ _ h => h) (by rfl) ?_ hS0 ?_
  rotate_left
  · (intro X hX; go_simp; try with_reducible rfl)
  simp only [Act.put, List.setIfInBounds_toArray, List.set_cons_zero, List.set_cons_succ]
  refine take_h (i := 4) (v := ?_) rfl (by kernel_rfl) (by kernel_rfl) (by kernel_rfl) (fun _ _ _ h => h) (by rfl) ?_ hS0 ?_
  rotate_left
  · (intro X hX; go_simp; try with_reducible rfl)
  simp only [Act.put, List.setIfInBounds_toArray, List.set_cons_zero, List.set_cons_succ]
  refine take_h (i := 5) (v := ?_) rfl (by kernel_rfl) (by kernel_rfl) (by kernel_rfl) (fun _ _ _ h => h) (by rfl) ?_ hS0 ?_
  rotate_left
  · (intro X hX; go_simp; try with_reducible rfl)
  simp only [Act.put, List.setIfInBounds_toArray, List.set_cons_zero, List.set_cons_succ]
  refine step_h (i := 6) rfl (by kernel_rfl) ?_
  intro KK hKK
  go_simp
  have hbx : Below w0.heap.size w0 (w0.drew.alloc (.cells #[.string key, .int .i64 at_, .bool pl] 76)) := valloc_bel (Below.refl w0.heap.size w0).drew _
  refine hKK.out _ _ ⟨keepCell hbx hS0.1, keepCell hbx hS0.2.1, keepCell hbx hS0.2.2.1, keepCell hbx hS0.2.2.2⟩ (fun hS2 => ?_)
  clear hKK KK
  refine step_h (i := 7) rfl (by kernel_rfl) ?_
  intro KK hKK
  have hnl : ∀ k, (Value.slice on now.length cn).ownBlock = some k → k < w.heap.size := fun k hk => ((HW.out w (Below.refl _ _)).ns.lt k hk).2
  have hwx := hwk.onto hbx
  refine step_append_lies _ (by rfl) _ _ _ (by rfl) W.heap.size 76 i1 (.agg #[.string ⟨#[]⟩, .int .i64 0, .bool false]) 3 32 Tryz.underlying35 hi' hz0' hz1' hz2' rfl (by decide) _ now.length _ (by rfl) hwx.ns ⟨w.heap.size + 2, 0, none⟩ 1 1 (sc ⟨key, at_, pl⟩) (by rfl) rfl (by rw [← hsz0]; exact new_cells w0.drew _ 76) (sc_one _) (by decide) (by unfold maxLen; omega) (by omega) (by have := hwx.bel.size; exact this) (w0.heap.size + 1) (by simp) ?_
  intro g9 cap9 w9 hown9 hgr9 hat9 hlt9
  have hk9 : ∀ (k o : Nat) (u : Value), w.heap.size ≤ k → w0.cell? ⟨k, o, none⟩ = some u → w9.cell? ⟨k, o, none⟩ = some u := fun k o u h1 h2 => by
    have h3 := keepCell hbx h2
    have hlt3 : k < (w0.drew.alloc (.cells #[.string key, .int .i64 at_, .bool pl] 76)).heap.size := by
      rcases Nat.lt_or_ge k (w0.drew.alloc (.cells #[.string key, .int .i64 at_, .bool pl] 76)).heap.size with hh | hh
      · exact hh
      · simp [World.cell?, Array.getElem?_eq_none hh] at h3
    rw [World.cell?_of_block (hgr9.block k hlt3 (fun e => by have := hnl k e.symm; omega))]
    exact h3
  have hd := hwx.down (s := ⟨key, at_, pl⟩) (by simpa using hown9) hgr9 (hat9.imp id (fun h => by rw [h]; simp))
  have hb9 : w9.cell? ⟨b, 0, none⟩ = some (.slice on now.length cn) := by
    rw [World.cell?_of_block (hgr9.block b hwx.lt (off_ne (own_off hwx.ns hwx.box (by decide))))]
    exact hwx.cells.1
  refine hKK.out _ _ ⟨hb9, hk9 _ _ _ (Nat.le_refl _) hS0.2.1, hk9 _ _ _ (Nat.le_refl _) hS0.2.2.1, hk9 _ _ _ (Nat.le_refl _) hS0.2.2.2⟩ (fun hS3 => ?_)
  clear hKK KK hS2
  simp only [Act.put, List.setIfInBounds_toArray, List.set_cons_zero, List.set_cons_succ]
  refine take_h (i := 8) (v := ?_) rfl (by kernel_rfl) (by kernel_rfl) (by kernel_rfl) (fun _ _ _ h => h) (by rfl) ?_ hS3 ?_
  rotate_left
  · (intro X hX; go_simp; try with_reducible rfl)
  simp only [Act.put, List.setIfInBounds_toArray, List.set_cons_zero, List.set_cons_succ]
  refine take_h (i := 9) (v := ?_) rfl (by kernel_rfl) (by kernel_rfl) (by kernel_rfl) (fun _ _ _ h => h) (by rfl) ?_ hS3 ?_
  rotate_left
  · (intro X hX; go_simp; try with_reducible rfl)
  simp only [Act.put, List.setIfInBounds_toArray, List.set_cons_zero, List.set_cons_succ]
  refine wpAnyH_done (by kernel_rfl) ?_ _
  change Oper.wp _ _ _ _ _ _
  have hf9 : w9.frozen? ⟨b, 0, none⟩ = false := by
    have h1 := (hgr9.block b hwx.lt (off_ne (own_off hwx.ns hwx.box (by decide)))).trans hwx.box
    simp [World.frozen?, h1]
  have hv : ∀ (o : Nat) (u : Value), w0.cell? ⟨w.heap.size + 1, o, none⟩ = some u → (w9.setCell ⟨b, 0, none⟩ (.slice (some ⟨g9, 0, none⟩) (now.length + 1) cap9)).cell? ⟨w.heap.size + 1, o, none⟩ = some u := fun o u h => by
    rw [set_other _ _ _ _ _ _ (.inl (by omega))]; exact hk9 _ _ _ (by omega) h
  have v0 := hv 0 (.int .i64 T.kd) (by rw [← hw0]; simp)
  have v1 := hv 1 (.int .i64 T.nm) (by rw [← hw0]; simp)
  have v2 := hv 2 (.string T.st) (by rw [← hw0]; simp)
  have v3 := hv 3 (.slice o1 n1 c1) (by rw [← hw0]; simp)
  have v4 := hv 4 (.slice o2 n2 c2) (by rw [← hw0]; simp)
  have hbd := hd.bel
  have C := hid (HV0.out hP _ _ b _ _ _ _ _ HT.out hd (by simp; omega) (by omega))
  simp only [vv] at C
  clear hd hv hk9 hgr9 hown9 hS0 hS3 hwx hwk hns HK HW hbx hb0 hb1 hw0
  go_simp
  generalize w9.setCell ⟨b, 0, none⟩ (.slice (some ⟨g9, 0, none⟩) (now.length + 1) cap9) = wA at *
  go_wp2_with fail
  go_at_call 32
  refine C.out.mono ?_
  rintro e w2 ⟨rfl, nv2, pv2, E2, hw2, hE2⟩
  obtain ⟨g2, cap2, rfl, hc2⟩ : ∃ g2 cap2, nv2 = .slice (some ⟨g2, 0, none⟩) (now.length + 1) cap2 ∧ now.length + 1 ≤ cap2 := by
    rcases hw2.ns.2 with ⟨-, e⟩ | ⟨g, cap, cur, rfl, -, -, h1, -⟩
    · simp at e
    · simp at h1; exact ⟨g, cap, by simp, h1⟩
  obtain ⟨q0, q1, qf⟩ := hw2.cells
  have HU := hid hw2.up
  have HE2 := hid hE2
  clear hw2 hE2 C
  go_wp2_with fail
  refine wp_region_ends2 (S := fun X => X.cell? ⟨b, 0, none⟩ = some (.slice (some ⟨g2, 0, none⟩) (now.length + 1) cap2)) (by simp) (by kernel_rfl) (by kernel_rfl) (by kernel_rfl) (by kernel_rfl) (by kernel_rfl) (by kernel_rfl) ?_
  simp only [List.dropLast, List.getLast_cons_cons, List.getLast_singleton, List.length_cons, List.length_nil]
  have hS0 : w2.drew.cell? ⟨b, 0, none⟩ = some (.slice (some ⟨g2, 0, none⟩) (now.length + 1) cap2) := q0
  have hwr : IntKind.i64.wrap (now.length : Int) = now.length := by rw [IntKind.wrap_i64]; omega
  refine take_h (i := 0) (v := ?_) rfl (by kernel_rfl) (by kernel_rfl) (by kernel_rfl) (fun _ _ _ h => h) (by rfl) ?_ hS0 ?_
  rotate_left
  · (intro X hX; go_simp; try with_reducible rfl)
  simp only [Act.put, List.setIfInBounds_toArray, List.set_cons_zero, List.set_cons_succ]
  refine take_h (i := 1) (v := ?_) rfl (by kernel_rfl) (by kernel_rfl) (by kernel_rfl) (fun _ _ _ h => h) (by rfl) ?_ hS0 ?_
  rotate_left
  · (intro X hX; go_simp; try with_reducible rfl)
  simp only [Act.put, List.setIfInBounds_toArray, List.set_cons_zero, List.set_cons_succ]
  refine take_h (i := 2) (v := ?_) rfl (by kernel_rfl) (by kernel_rfl) (by kernel_rfl) (fun _ _ _ h => h) (by rfl) ?_ hS0 ?_
  rotate_left
  · (intro X hX; go_simp; try with_reducible rfl)
  simp only [Act.put, List.setIfInBounds_toArray, List.set_cons_zero, List.set_cons_succ]
  refine take_h (i := 3) (v := ?_) rfl (by kernel_rfl) (by kernel_rfl) (by kernel_rfl) (fun _ _ _ h => h) (by rfl) ?_ hS0 ?_
  rotate_left
  · (intro X hX; go_simp; try with_reducible rfl)
  simp only [Act.put, List.setIfInBounds_toArray, List.set_cons_zero, List.set_cons_succ]
  refine take_h (i := 4) (v := ?_) rfl (by kernel_rfl) (by kernel_rfl) (by kernel_rfl) (fun _ _ _ h => h) (by rfl) ?_ hS0 ?_
  rotate_left
  · (intro X hX; go_simp; try with_reducible rfl)
  simp only [Act.put, List.setIfInBounds_toArray, List.set_cons_zero, List.set_cons_succ]
  refine take_h (i := 5) (v := ?_) rfl (by kernel_rfl) (by kernel_rfl) (by kernel_rfl) (fun _ _ _ h => h) (by rfl) ?_ hS0 ?_
  rotate_left
  · (intro X hX; go_simp; try with_reducible rfl)
  simp only [Act.put, List.setIfInBounds_toArray, List.set_cons_zero, List.set_cons_succ]
  refine take_h (i := 6) (v := ?_) rfl (by kernel_rfl) (by kernel_rfl) (by kernel_rfl) (fun _ _ _ h => h) (by rfl) ?_ hS0 ?_
  rotate_left
  · (intro X hX; go_simp; try with_reducible rfl)
  simp only [Act.put, List.setIfInBounds_toArray, List.set_cons_zero, List.set_cons_succ]
  refine take_h (i := 7) (v := ?_) rfl (by kernel_rfl) (by kernel_rfl) (by kernel_rfl) (fun _ _ _ h => h) (by rfl) ?_ hS0 ?_
  rotate_left
  · (intro X hX; go_simp; try with_reducible rfl)
  simp only [Act.put, List.setIfInBounds_toArray, List.set_cons_zero, List.set_cons_succ]
  refine take_h (i := 8) (v := ?_) rfl (by kernel_rfl) (by kernel_rfl) (by kernel_rfl) (fun _ _ _ h => h) (by rfl) ?_ hS0 ?_
  rotate_left
  · (intro X hX; go_simp; try with_reducible rfl)
  simp only [Act.put, List.setIfInBounds_toArray, List.set_cons_zero, List.set_cons_succ]
  refine take_h (i := 9) (v := ?_) rfl (by kernel_rfl) (by kernel_rfl) (by kernel_rfl) (fun _ _ _ h => h) (by rfl) ?_ hS0 ?_
  rotate_left
  · (intro X hX; go_simp; try with_reducible rfl)
  simp only [Act.put, List.setIfInBounds_toArray, List.set_cons_zero, List.set_cons_succ]
  refine take_h (i := 10) (v := .int .i64 (now.length : Int)) rfl (by kernel_rfl) (by kernel_rfl) (by kernel_rfl) (fun _ _ _ h => h) (by rfl) ?_ hS0 ?_
  · (intro X hX; go_simp)
  simp only [Act.put, List.setIfInBounds_toArray, List.set_cons_zero, List.set_cons_succ]
  refine take_h (i := 11) (v := .slice (some ⟨g2, 0, none⟩) now.length cap2) rfl (by kernel_rfl) (by kernel_rfl) (by kernel_rfl) (fun _ _ _ h => h) (by rfl) ?_ hS0 ?_
  · (intro X hX; go_simp; try (intro hh; exact absurd hh (by omega)))
  simp only [Act.put, List.setIfInBounds_toArray, List.set_cons_zero, List.set_cons_succ]
  refine take_h (i := 12) (v := ?_) rfl (by kernel_rfl) (by kernel_rfl) (by kernel_rfl) (fun _ _ _ h => h) (by rfl) ?_ hS0 ?_
  rotate_left
  · (intro X hX; go_simp; try with_reducible rfl)
  simp only [Act.put, List.setIfInBounds_toArray, List.set_cons_zero, List.set_cons_succ]
  refine take_h (i := 13) (v := ?_) rfl (by kernel_rfl) (by kernel_rfl) (by kernel_rfl) (fun _ _ _ h => h) (by rfl) ?_ hS0 ?_
  rotate_left
  · (intro X hX; go_simp; try with_reducible rfl)
  simp only [Act.put, List.setIfInBounds_toArray, List.set_cons_zero, List.set_cons_succ]
  refine wpAnyH_done (by kernel_rfl) ?_ _
  change Oper.wp _ _ _ _ _ _
  go_simp
  go_wp2_with fail
  refine bodyPost_end (v := .tuple #[]) (by simp [results, Tryz.results62, go_sem]) rfl ?_
  exact ⟨rfl, _, _, E2, HU.out.onto (Below.refl _ _).drew, HE2.out⟩
end Go.Proofs.YtadbeodeiijhdaaGreatDoor
namespace Go.Proofs.YtadbeodeiijhdaaGreatDoor
open Go.RowKit

end Go.Proofs.YtadbeodeiijhdaaGreatDoor
namespace Go.Proofs.YtadbeodeiijhdaaGreatDoor
open Go.RowKit

/-- the value of a number's text -/
def cnmT (l : List UInt8) : VT := if intB l = true then leafT 2 (intV l) ⟨#[]⟩ else leafT 3 0 (mkS l)
/-- the words -/
def cwdT (l : List UInt8) : Option VT :=
  if l = [110, 117, 108, 108] then some zeroT else if l = [116, 114, 117, 101] then some (leafT 1 1 ⟨#[]⟩) else if l = [102, 97, 108, 115, 101] then some (leafT 1 0 ⟨#[]⟩) else if l = [91, 93] then some (leafT 5 0 ⟨#[]⟩) else if l = [123, 125] then some (leafT 6 0 ⟨#[]⟩) else none
/-- what a text is read as, with the error -/
def celT (l : List UInt8) : VT × Int :=
  if l = [] then (zeroT, 9) else match cwdT l with
  | some T => (T, 0)
  | none => if numB l = true then (cnmT l, 0) else if l.head? = some 64 then (if stampB (mkS l.tail) = true then (leafT 7 0 (mkS l.tail), 0) else (zeroT, 4))
    else if l.head? = some 39 then (strR (mkS l.tail), teI (mkS l.tail)) else (strR (mkS l), teI (mkS l))
/-- a text that is read as its own string -/
def cplB (l : List UInt8) : Bool := !l.isEmpty && (cwdT l).isNone && !numB l && !decide (l.head? = some 64) && !decide (l.head? = some 39)
/-- what is written of a string -/
def cstL (l : List UInt8) : List UInt8 := if cplB l = true then l else 39 :: l
/-- what is written of a value without parts -/
def celS (k n : Int) (s : ByteArray) : List UInt8 :=
  if k = 1 then (if n = 1 then [116, 114, 117, 101] else [102, 97, 108, 115, 101]) else if k = 2 then txt n else if k = 3 then s.data.toList else if k = 4 then cstL s.data.toList
  else if k = 7 then 64 :: s.data.toList else if k = 5 then [91, 93] else if k = 6 then [123, 125] else [110, 117, 108, 108]
def celW (T : VT) : List UInt8 := celS T.kd T.nm T.st
/-- a value that has a cell -/
def celB (T : VT) : Bool := T.ls.isEmpty && T.vs.isEmpty && mayB 0 1 T

theorem cnum_at {b : UInt8} (l : List UInt8) (h : ¬ b.toNat = 45) (hd : isD b = false) : numB (b :: l) = false := by
  have e : pWok (b :: l) = false := by
    unfold pWok pW pU pNeg
    simp [h, hd]
  unfold numB pOk
  rw [e]; rfl
theorem cwd_is {l : List UInt8} {T : VT} (h : cwdT l = some T) : (l = [110, 117, 108, 108] ∧ T = zeroT) ∨ (l = [116, 114, 117, 101] ∧ T = leafT 1 1 ⟨#[]⟩) ∨ (l = [102, 97, 108, 115, 101] ∧ T = leafT 1 0 ⟨#[]⟩) ∨ (l = [91, 93] ∧ T = leafT 5 0 ⟨#[]⟩) ∨ (l = [123, 125] ∧ T = leafT 6 0 ⟨#[]⟩) := by
  unfold cwdT at h
  by_cases h1 : l = [110, 117, 108, 108]
  · rw [if_pos h1] at h; exact .inl ⟨h1, (Option.some.inj h).symm⟩
  rw [if_neg h1] at h
  by_cases h2 : l = [116, 114, 117, 101]
  · rw [if_pos h2] at h; exact .inr (.inl ⟨h2, (Option.some.inj h).symm⟩)
  rw [if_neg h2] at h
  by_cases h3 : l = [102, 97, 108, 115, 101]
  · rw [if_pos h3] at h; exact .inr (.inr (.inl ⟨h3, (Option.some.inj h).symm⟩))
  rw [if_neg h3] at h
  by_cases h4 : l = [91, 93]
  · rw [if_pos h4] at h; exact .inr (.inr (.inr (.inl ⟨h4, (Option.some.inj h).symm⟩)))
  rw [if_neg h4] at h
  by_cases h5 : l = [123, 125]
  · rw [if_pos h5] at h; exact .inr (.inr (.inr (.inr ⟨h5, (Option.some.inj h).symm⟩)))
  rw [if_neg h5] at h; cases h
theorem cwd_num {l : List UInt8} (h : numB l = true) : cwdT l = none := by
  cases hc : cwdT l with
  | none => rfl
  | some T =>
    rcases cwd_is hc with ⟨rfl, -⟩ | ⟨rfl, -⟩ | ⟨rfl, -⟩ | ⟨rfl, -⟩ | ⟨rfl, -⟩ <;>
      (rw [cnum_at _ (by decide) (by decide)] at h; cases h)
theorem cwd_mark (b : UInt8) (l : List UInt8) (h : b = 39 ∨ b = 64) : cwdT (b :: l) = none := by
  unfold cwdT
  rcases h with rfl | rfl <;> simp
theorem cel_none {l : List UInt8} (h0 : ¬ l = []) (hw : cwdT l = none) : celT l = if numB l = true then (cnmT l, 0) else if l.head? = some 64 then (if stampB (mkS l.tail) = true then (leafT 7 0 (mkS l.tail), 0) else (zeroT, 4))
    else if l.head? = some 39 then (strR (mkS l.tail), teI (mkS l.tail)) else (strR (mkS l), teI (mkS l)) := by
  unfold celT
  rw [if_neg h0, hw]
theorem cel_word {l : List UInt8} {T : VT} (hw : cwdT l = some T) : celT l = (T, 0) := by
  have h0 : ¬ l = [] := by
    rcases cwd_is hw with ⟨rfl, -⟩ | ⟨rfl, -⟩ | ⟨rfl, -⟩ | ⟨rfl, -⟩ | ⟨rfl, -⟩ <;> simp
  unfold celT
  rw [if_neg h0, hw]
theorem cel_num {l : List UInt8} (h : numB l = true) : celT l = (cnmT l, 0) := by
  rw [cel_none (num_ne l h) (cwd_num h), if_pos h]
theorem cel_at (l : List UInt8) : celT (64 :: l) = if stampB (mkS l) = true then (leafT 7 0 (mkS l), 0) else (zeroT, 4) := by
  rw [cel_none (by simp) (cwd_mark _ _ (.inr rfl)), cnum_at _ (by decide) (by decide), if_neg (by decide), if_pos (by rfl)]
  rfl
theorem cel_mark (l : List UInt8) : celT (39 :: l) = (strR (mkS l), teI (mkS l)) := by
  rw [cel_none (by simp) (cwd_mark _ _ (.inl rfl)), cnum_at _ (by decide) (by decide), if_neg (by decide), if_neg (by simp), if_pos (by rfl)]
  rfl
theorem cpl_parts {l : List UInt8} (h : cplB l = true) : ¬ l = [] ∧ cwdT l = none ∧ numB l = false ∧ ¬ l.head? = some 64 ∧ ¬ l.head? = some 39 := by
  unfold cplB at h
  simp only [Bool.and_eq_true, Bool.not_eq_true', decide_eq_false_iff_not, Option.isNone_iff_eq_none] at h
  obtain ⟨⟨⟨⟨h1, h2⟩, h3⟩, h4⟩, h5⟩ := h
  exact ⟨by intro e; rw [e] at h1; simp at h1, h2, h3, h4, h5⟩
theorem cpl_of {l : List UInt8} (h0 : ¬ l = []) (h1 : cwdT l = none) (h2 : numB l = false) (h3 : ¬ l.head? = some 64) (h4 : ¬ l.head? = some 39) : cplB l = true := by
  unfold cplB
  rw [h1, h2, decide_eq_false h3, decide_eq_false h4]
  cases l with
  | nil => exact absurd rfl h0
  | cons a r => rfl
theorem cel_plain {l : List UInt8} (h : cplB l = true) : celT l = (strR (mkS l), teI (mkS l)) := by
  obtain ⟨h0, h1, h2, h3, h4⟩ := cpl_parts h
  rw [cel_none h0 h1, h2, if_neg (by decide), if_neg h3, if_neg h4]
theorem str_r {s : ByteArray} (h : teI s = 0) : strR s = leafT 4 0 s := by unfold strR; rw [if_pos h]
/-- what is no plain text is read as something else -/
theorem cel_not {l : List UInt8} (h : cplB l = false) : ¬ ((celT l).2 = 0 ∧ (celT l).1 = leafT 4 0 (mkS l)) := by
  rintro ⟨h1, h2⟩
  by_cases h0 : l = []
  · subst h0; unfold celT at h1; simp at h1
  cases hw : cwdT l with
  | some T =>
    rw [cel_word hw] at h2
    have h2 : T = leafT 4 0 (mkS l) := h2
    rcases cwd_is hw with ⟨-, e⟩ | ⟨-, e⟩ | ⟨-, e⟩ | ⟨-, e⟩ | ⟨-, e⟩ <;>
      (rw [e] at h2; have := congrArg VT.kd h2; simp [zeroT, leafT, VT.kd] at this)
  | none =>
    cases hn : numB l with
    | true =>
      rw [cel_num hn] at h2
      have h2 : cnmT l = leafT 4 0 (mkS l) := h2
      have := congrArg VT.kd h2
      unfold cnmT at this
      cases hi : intB l <;> simp [hi, leafT, VT.kd] at this
    | false =>
      by_cases h3 : l.head? = some 64
      · obtain ⟨a, r, rfl⟩ : ∃ a r, l = a :: r := by
          cases l with
          | nil => exact absurd rfl h0
          | cons a r => exact ⟨a, r, rfl⟩
        have ha : a = 64 := by simpa using h3
        subst ha
        rw [cel_at] at h1 h2
        cases hs : stampB (mkS r) with
        | true =>
          rw [hs, if_pos rfl] at h2
          have := congrArg VT.kd h2
          simp [leafT, VT.kd] at this
        | false => rw [hs, if_neg (by decide)] at h1; simp at h1
      · by_cases h4 : l.head? = some 39
        · obtain ⟨a, r, rfl⟩ : ∃ a r, l = a :: r := by
            cases l with
            | nil => exact absurd rfl h0
            | cons a r => exact ⟨a, r, rfl⟩
          have ha : a = 39 := by simpa using h4
          subst ha
          rw [cel_mark] at h1 h2
          have h1 : teI (mkS r) = 0 := h1
          have h2 : strR (mkS r) = leafT 4 0 (mkS (39 :: r)) := h2
          rw [str_r h1] at h2
          have := congrArg (fun T => T.st.data.toList.length) h2
          simp [leafT, VT.st, mkS_list] at this
        · rw [cpl_of h0 hw hn h3 h4] at h; cases h
theorem leaf_of {T : VT} (h : celB T = true) (hk : T.ks.length = T.vs.length) : T = leafT T.kd T.nm T.st ∧ nodeB T = true := by
  unfold celB at h
  simp only [Bool.and_eq_true, List.isEmpty_iff] at h
  obtain ⟨⟨h1, h2⟩, h3⟩ := h
  cases T with
  | mk k n s L K V =>
    simp only [VT.ls, VT.vs, VT.ks, VT.kd, VT.nm, VT.st] at *
    subst h1 h2
    have hk : K = [] := List.length_eq_zero_iff.1 hk
    subst hk
    exact ⟨rfl, (good_node h3).2.2⟩
end Go.Proofs.YtadbeodeiijhdaaGreatDoor
