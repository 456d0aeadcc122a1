
import Derived.Test.YtjcgkihkjjaefaaGreatDoorHPathFind
import Derived.Test.YtjcgkihkjjaefaaGreatDoorHVCopyAll
/- flat: the walk through a tree: what it holds in memory; a part entered. -/
namespace Go.Proofs.YtjcgkihkjjaefaaGreatDoor
open Go.RowKit

/-- a leaf that was told: its path, its tree, the path's slice, its own two -/
structure LE where
  p : List PStep
  T : VT
  u : Value
  x : Value
  y : Value
def LE.pt (e : LE) : List PStep × VT := (e.p, e.T)
def lcE (e : LE) : List Value := [e.u, .int .i64 e.T.kd, .int .i64 e.T.nm, .string e.T.st, e.x, e.y]
/-- a tree without parts, wherever it is -/
def Bare (e : LE) : Prop := (e.T.ls = [] ∧ e.T.vs = []) ∧ ∀ w, HV w e.T e.x e.y
theorem hv_bare {w w' : World} {T : VT} {x y : Value} (h : HV w T x y) (h1 : T.ls = []) (h2 : T.vs = []) : HV w' T x y := by
  cases h with
  | mk a b f g p q hk hn hs hL hM hK cL cK cM rL rM =>
    simp only [VT.ls, VT.vs] at h1 h2
    subst h1 h2
    have hK0 := List.eq_nil_of_length_eq_zero hK
    subst hK0
    exact .mk a b f g p q hk hn hs hL hM hK (fun i t h => by simp at h) (fun i u h => by simp at h) (fun i t h => by simp at h) (fun i t h => by simp at h) (fun i t h => by simp at h)
/-- the walk's box: where it is now, and the paths that it came by -/
def OwnF (W w : World) (v : Value) (E : List LE) : Prop := w.ownsRow W.heap.size 40 6 v E.length (E.flatMap lcE)
structure Lk (W : World) (b : Nat) (nv pv : Value) (now : List PStep) (E : List LE) (w : World) : Prop where
  bel : Below W.heap.size W w
  lo : W.heap.size ≤ b
  box : w.heap[b]? = some (.cells #[nv, pv] 67 (0, 0))
  ns : OwnS W w nv now
  ps : OwnF W w pv E
  es : ∀ e ∈ E, OwnS W w e.u e.p ∧ (e.u.ownBlock = none ∨ e.u.ownBlock ≠ nv.ownBlock)
  bs : ∀ e ∈ E, Bare e
theorem Lk.onto {W : World} {b : Nat} {nv pv : Value} {now : List PStep} {E : List LE} {w w' : World} (h : Lk W b nv pv now E w) (hb : Below w.heap.size w w') : Lk W b nv pv now E w' :=
  ⟨vonto h.bel hb, h.lo, by rw [hb.block b (Array.getElem?_eq_some_iff.1 h.box).1]; exact h.box, ownsRow_below h.ns hb, ownsRow_below h.ps hb, fun e he => ⟨ownsRow_below (h.es e he).1 hb, (h.es e he).2⟩, h.bs⟩
theorem Lk.lt {W : World} {b : Nat} {nv pv : Value} {now : List PStep} {E : List LE} {w : World} (h : Lk W b nv pv now E w) : b < w.heap.size := (Array.getElem?_eq_some_iff.1 h.box).1
theorem lbox_set {w : World} {b : Nat} {c : Array Value} {ty : TypeId} {fz : Nat × Nat} (h : w.heap[b]? = some (.cells c ty fz)) (o : Nat) (u : Value) : (w.setCell ⟨b, o, none⟩ u).heap[b]? = some (.cells (c.setIfInBounds o u) ty fz) := by
  simp [World.setCell, Array.getElem?_modify, h]
/-- a leaf more -/
theorem Lk.more {W : World} {b : Nat} {nv pv : Value} {now : List PStep} {E : List LE} {w w3 : World} {pv' : Value} (e : LE) (h : Lk W b nv pv now E w) (hu : OwnS W w e.u e.p) (hun : e.u.ownBlock = none ∨ e.u.ownBlock ≠ nv.ownBlock) (hB : Bare e)
    (h3 : w3.ownsRow W.heap.size 40 6 pv' (E.length + 1) (E.flatMap lcE ++ lcE e)) (hg : w.grownBy w3 pv.ownBlock) : Lk W b nv pv' now (E ++ [e]) (w3.setCell ⟨b, 1, none⟩ pv') := by
  have hbne : pv.ownBlock = none ∨ pv.ownBlock ≠ some b := own_off h.ps h.box (by decide)
  have hbx : w3.heap[b]? = some (.cells #[nv, pv] 67 (0, 0)) := by
    rw [hg.block b h.lt (off_ne hbne)]
    exact h.box
  have keep : ∀ {v : Value} {q : List PStep}, OwnS W w v q → OwnS W (w3.setCell ⟨b, 1, none⟩ pv') v q := fun {v q} hv => by
    have h1 : OwnS W w3 v q := hv.kept hg (own_ne hv h.ps (by decide))
    exact h1.kept (set_grownW w3 b 1 pv') (own_off h1 hbx (by decide))
  refine ⟨?_, h.lo, by rw [lbox_set hbx]; rfl, keep h.ns, ?_, ?_, ?_⟩
  · exact vset_bel (h.bel.grown hg (by have := h.bel.size; omega) (fun q hq => (h.ps.lt q hq).1)) h.lo
  · have := h3.kept (set_grownW w3 b 1 pv') (own_off h3 hbx (by decide))
    simpa [OwnF] using this
  · intro e' he
    rcases List.mem_append.1 he with he | he
    · exact ⟨keep (h.es e' he).1, (h.es e' he).2⟩
    · simp at he; subst he; exact ⟨keep hu, hun⟩
  · intro e' he
    rcases List.mem_append.1 he with he | he
    · exact h.bs e' he
    · simp at he; subst he; exact hB
/-- a step down -/
theorem Lk.down {W : World} {b : Nat} {nv pv : Value} {now : List PStep} {E : List LE} {w w3 : World} {g cap : Nat} {s : PStep} (h : Lk W b nv pv now E w)
    (h3 : w3.ownsRow W.heap.size 73 3 (.slice (some ⟨g, 0, none⟩) (now.length + 1) cap) (now.length + 1) (now.flatMap sc ++ sc s)) (hg : w.grownBy w3 nv.ownBlock) (hw : nv.ownBlock = some g ∨ g = w.heap.size) :
    Lk W b (.slice (some ⟨g, 0, none⟩) (now.length + 1) cap) pv (now ++ [s]) E (w3.setCell ⟨b, 0, none⟩ (.slice (some ⟨g, 0, none⟩) (now.length + 1) cap)) := by
  have hbne : nv.ownBlock = none ∨ nv.ownBlock ≠ some b := own_off h.ns h.box (by decide)
  have hbx : w3.heap[b]? = some (.cells #[nv, pv] 67 (0, 0)) := by
    rw [hg.block b h.lt (off_ne hbne)]
    exact h.box
  refine ⟨?_, h.lo, by rw [lbox_set hbx]; rfl, ?_, ?_, ?_, h.bs⟩
  · exact vset_bel (h.bel.grown hg (by have := h.bel.size; omega) (fun q hq => (h.ns.lt q hq).1)) h.lo
  · have := h3.kept (set_grownW w3 b 0 (.slice (some ⟨g, 0, none⟩) (now.length + 1) cap)) (own_off h3 hbx (by decide))
    simpa [OwnS] using this
  · have h1 := h.ps.kept hg (own_ne h.ps h.ns (by decide))
    exact h1.kept (set_grownW w3 b 0 _) (own_off h1 hbx (by decide))
  · intro e he
    obtain ⟨k1, k2⟩ := h.es e he
    have k3 := k1.kept hg k2
    refine ⟨k3.kept (set_grownW w3 b 0 _) (own_off k3 hbx (by decide)), ?_⟩
    rcases hw with hw | hw
    · rw [hw] at k2; exact k2
    · exact own_neq k1 g rfl (.inr (by omega))
/-- and up again -/
theorem Lk.up {W : World} {b g cap : Nat} {pv : Value} {now : List PStep} {s : PStep} {E : List LE} {w : World} (h : Lk W b (.slice (some ⟨g, 0, none⟩) (now.length + 1) cap) pv (now ++ [s]) E w) :
    Lk W b (.slice (some ⟨g, 0, none⟩) now.length cap) pv now E (w.setCell ⟨b, 0, none⟩ (.slice (some ⟨g, 0, none⟩) now.length cap)) := by
  have hns : OwnS W w (.slice (some ⟨g, 0, none⟩) now.length cap) now := by
    rcases h.ns.2 with ⟨e, -⟩ | ⟨g', cap', cur, e, hb, hgg, h1, h2, h3, h4⟩
    · cases e
    · injection e with e1 e2 e3
      injection e1 with e1
      injection e1 with e1
      subst e1 e3
      simp only [List.length_append, List.length_singleton] at h1 h4
      refine ⟨sc_len now, .inr ⟨g, cap, cur, rfl, hb, hgg, by omega, h2, h3, ?_⟩⟩
      have := congrArg (List.take (now.length * 3)) h4
      rw [List.take_take, Nat.min_eq_left (by omega), List.flatMap_append, ← sc_len now, List.take_left] at this
      rw [← sc_len now]
      exact this
  have hbx := h.box
  refine ⟨vset_bel h.bel h.lo, h.lo, by rw [lbox_set hbx]; rfl, hns.kept (set_grownW w b 0 _) (own_off hns hbx (by decide)), h.ps.kept (set_grownW w b 0 _) (own_off h.ps hbx (by decide)), fun e he => ?_, h.bs⟩
  obtain ⟨k1, k2⟩ := h.es e he
  exact ⟨k1.kept (set_grownW w b 0 _) (own_off k1 hbx (by decide)), k2⟩
theorem lk_new (w : World) (o : Obj) : Lk w (w.heap.size + 1) (.slice none 0 0) (.slice none 0 0) [] [] ((w.alloc o).alloc (.cells #[.slice none 0 0, .slice none 0 0] 67)) := by
  refine ⟨valloc_bel (valloc_bel (Below.refl _ _) _) _, by omega, ?_, World.ownsRow_nil _ _ _ _, World.ownsRow_nil _ _ _ _, (fun e he => by simp at he), (fun e he => by simp at he)⟩
  rw [← World.size_alloc w o]
  simp only [World.alloc, Array.getElem?_push_size]
end Go.Proofs.YtjcgkihkjjaefaaGreatDoor
namespace Go.Proofs.YtjcgkihkjjaefaaGreatDoor
open Go.RowKit

/-- a node visited -/
def LVisitOk (W : World) (T : VT) : Prop := plainT T = true → ∀ (x y : Value) (b : Nat) (nv pv' : Value) (now : List PStep) (E : List LE) (w : World), HV W T x y → Lk W b nv pv' now E w → now.length + szT T ≤ 2000000 → E.length + szT T ≤ 2000000 →
  Calls Tryz.prog 27 #[.pointer (some ⟨b, 0, none⟩), vv T x y] w fun e w' => e = .returned (.tuple #[]) ∧ ∃ nv2 pv2 E2, Lk W b nv2 pv2 now E2 w' ∧ E2.map LE.pt = E.map LE.pt ++ lfT T now
theorem Lk.cells {W : World} {b : Nat} {nv pv' : Value} {now : List PStep} {E : List LE} {w : World} (h : Lk W b nv pv' now E w) : w.cell? ⟨b, 0, none⟩ = some nv ∧ w.cell? ⟨b, 1, none⟩ = some pv' ∧ ∀ o, w.frozen? ⟨b, o, none⟩ = false := by
  have hb := h.box
  refine ⟨?_, ?_, fun o => ?_⟩
  · rw [cell_of_row w b 0 _ _ _ hb]; rfl
  · rw [cell_of_row w b 1 _ _ _ hb]; rfl
  · simp [World.frozen?, hb]
theorem Lk.slices {W : World} {b : Nat} {nv pv' : Value} {now : List PStep} {E : List LE} {w : World} (h : Lk W b nv pv' now E w) : (∃ o c, nv = .slice o now.length c) ∧ ∃ o c, pv' = .slice o E.length c := by
  constructor
  · rcases h.ns.2 with ⟨rfl, e⟩ | ⟨g, cap, cur, rfl, -⟩
    · exact ⟨none, 0, by rw [e]⟩
    · exact ⟨_, _, rfl⟩
  · rcases h.ps.2 with ⟨rfl, e⟩ | ⟨g, cap, cur, rfl, -⟩
    · exact ⟨none, 0, by rw [e]⟩
    · exact ⟨_, _, rfl⟩
set_option maxRecDepth 100000 in
set_option maxHeartbeats 1000000 in
theorem lenter_any (W : World) (T : VT) (hV : LVisitOk W T) (s : PStep) (x y : Value) (b : Nat) (nv pv' : Value) (now : List PStep) (E : List LE) (w : World) (hP : plainT T = true) (hT : HV W T x y) (hW : Lk W b nv pv' now E w) (hn : now.length + 1 + szT T ≤ 2000000) (hE : E.length + szT T ≤ 2000000) :
    Calls Tryz.prog 47 #[.pointer (some ⟨b, 0, none⟩), pv s, vv T x y] w fun e w' => e = .returned (.tuple #[]) ∧ ∃ nv2 pv2 E2, Lk W b nv2 pv2 now E2 w' ∧ E2.map LE.pt = E.map LE.pt ++ lfT T (now ++ [s]) := by
  obtain ⟨o1, n1, c1, o2, n2, c2, rfl, rfl⟩ := hv_slices hT
  obtain ⟨i1, hi', hz0', hz1', hz2'⟩ := info_parts Tryz.infoPst
  obtain ⟨⟨on, cn, rfl⟩, ⟨op, cp, rfl⟩⟩ := hW.slices
  have HV0 := hid hV
  have HT := hid hT
  have HW := hid (fun X (hX : Below w.heap.size w X) => hW.onto hX)
  have hlt := hW.lt
  obtain ⟨key, at_, pl⟩ := s
  have hs1 : w.heap.size ≠ b := by omega
  clear hV hT hW
  simp only [vv, pv]
  go_enter Tryz.func47, Tryz.ntmps47
  go_wp2_with fail
  have hb0 : Below w.heap.size w ((w.alloc (.cells #[.string key, .int .i64 at_, .bool pl] 73)).alloc (.cells #[.int .i64 T.kd, .int .i64 T.nm, .string T.st, .slice o1 n1 c1, .slice o2 n2 c2] 34)) := valloc_bel (valloc_bel (Below.refl _ _) _) _
  have HK : Hid (∀ X, Lk W b (.slice on now.length cn) (.slice op E.length cp) now E X → Below (w.heap.size + 1) ((w.alloc (.cells #[.string key, .int .i64 at_, .bool pl] 73))) X → X.cell? ⟨b, 0, none⟩ = some (.slice on now.length cn) ∧ X.cell? ⟨w.heap.size, 0, none⟩ = some (.string key) ∧ X.cell? ⟨w.heap.size, 1, none⟩ = some (.int .i64 at_) ∧ X.cell? ⟨w.heap.size, 2, none⟩ = some (.bool pl)) := fun X h1 h2 => ⟨h1.cells.1, by rw [h2.cell (by simp)]; simp, by rw [h2.cell (by simp)]; simp, by rw [h2.cell (by simp)]; simp⟩
  have hb1 : Below (w.heap.size + 1) (w.alloc (.cells #[.string key, .int .i64 at_, .bool pl] 73)) ((w.alloc (.cells #[.string key, .int .i64 at_, .bool pl] 73)).alloc (.cells #[.int .i64 T.kd, .int .i64 T.nm, .string T.st, .slice o1 n1 c1, .slice o2 n2 c2] 34)) := (Below.refl _ _).alloc (by simp) _
  have hwk := HW.out _ hb0
  have hns := hwk.ns
  have hS0 := HK.out _ hwk hb1
  generalize hw0 : ((w.alloc (.cells #[.string key, .int .i64 at_, .bool pl] 73)).alloc (.cells #[.int .i64 T.kd, .int .i64 T.nm, .string T.st, .slice o1 n1 c1, .slice o2 n2 c2] 34)) = w0 at *
  have hsz0 : w0.heap.size = w.heap.size + 2 := by rw [← hw0]; simp
  refine wp_region_ends2 (S := fun X => X.cell? ⟨b, 0, none⟩ = some (.slice on now.length cn) ∧ X.cell? ⟨w.heap.size, 0, none⟩ = some (.string key) ∧ X.cell? ⟨w.heap.size, 1, none⟩ = some (.int .i64 at_) ∧ X.cell? ⟨w.heap.size, 2, none⟩ = some (.bool pl)) (by simp) (by kernel_rfl) (by kernel_rfl) (by kernel_rfl) (by kernel_rfl) (by kernel_rfl) (by kernel_rfl) ?_
  simp only [List.dropLast, List.getLast_cons_cons, List.getLast_singleton, List.length_cons, List.length_nil]
  replace hS0 : w0.drew.cell? ⟨b, 0, none⟩ = some (.slice on now.length cn) ∧ w0.drew.cell? ⟨w.heap.size, 0, none⟩ = some (.string key) ∧ w0.drew.cell? ⟨w.heap.size, 1, none⟩ = some (.int .i64 at_) ∧ w0.drew.cell? ⟨w.heap.size, 2, none⟩ = some (.bool pl) := hS0
  refine take_h (i := 0) (v := ?_) rfl (by kernel_rfl) (by kernel_rfl) (by kernel_rfl) (fun _ _ _ h => h) (by rfl) ?_ hS0 ?_
  rotate_left
  · (intro X hX; go_simp; try with_reducible rfl)
  simp only [Act.put, List.setIfInBounds_toArray, List.set_cons_zero, List.set_cons_succ]
  refine take_h (i := 1) (v := ?_) rfl (by kernel_rfl) (by kernel_rfl) (by kernel_rfl) (fun _ _ _ h => h) (by rfl) ?_ hS0 ?_
  rotate_left
  · (intro X hX; go_simp; try with_reducible rfl)
  simp only [Act.put, List.setIfInBounds_toArray, List.set_cons_zero, List.set_cons_succ]
  refine take_h (i := 2) (v := ?_) rfl (by kernel_rfl) (by kernel_rfl) (by kernel_rfl) (fun _ _ _ h => h) (by rfl) ?_ hS0 ?_
  rotate_left
  · (intro X hX; go_simp; try with_reducible rfl)
  simp only [Act.put, List.setIfInBounds_toArray, List.set_cons_zero, List.set_cons_succ]
  refine take_h (i := 3) (v := ?_) rfl (by kernel_rfl) (by kernel_rfl) (by kernel_rfl) (fun _ _ _ h => h) (by rfl) ?_ hS0 ?_
  rotate_left
  · (intro X hX; go_simp; try with_reducible rfl)
  simp only [Act.put, List.setIfInBounds_toArray, List.set_cons_zero, List.set_cons_succ]
  refine take_h (i := 4) (v := ?_) rfl (by kernel_rfl) (by kernel_rfl) (by kernel_rfl) (fun _ _ _ h => h) (by rfl) ?_ hS0 ?_
  rotate_left
  · (intro X hX; go_simp; try with_reducible rfl)
  simp only [Act.put, List.setIfInBounds_toArray, List.set_cons_zero, List.set_cons_succ]
  refine take_h (i := 5) (v := ?_) rfl (by kernel_rfl) (by kernel_rfl) (by kernel_rfl) (fun _ _ _ h => h) (by rfl) ?_ hS0 ?_
  rotate_left
  · (intro X hX; go_simp; try with_reducible rfl)
  simp only [Act.put, List.setIfInBounds_toArray, List.set_cons_zero, List.set_cons_succ]
  refine step_h (i := 6) rfl (by kernel_rfl) ?_
  intro KK hKK
  go_simp
  have hbx : Below w0.heap.size w0 (w0.drew.alloc (.cells #[.string key, .int .i64 at_, .bool pl] 73)) := valloc_bel (Below.refl w0.heap.size w0).drew _
  refine hKK.out _ _ ⟨keepCell hbx hS0.1, keepCell hbx hS0.2.1, keepCell hbx hS0.2.2.1, keepCell hbx hS0.2.2.2⟩ (fun hS2 => ?_)
  clear hKK KK
  refine step_h (i := 7) rfl (by kernel_rfl) ?_
  intro KK hKK
  have hnl : ∀ k, (Value.slice on now.length cn).ownBlock = some k → k < w.heap.size := fun k hk => ((HW.out w (Below.refl _ _)).ns.lt k hk).2
  have hwx := hwk.onto hbx
  refine step_append_lies _ (by rfl) _ _ _ (by rfl) W.heap.size 73 i1 (.agg #[.string ⟨#[]⟩, .int .i64 0, .bool false]) 3 32 Tryz.underlying38 hi' hz0' hz1' hz2' rfl (by decide) _ now.length _ (by rfl) hwx.ns ⟨w.heap.size + 2, 0, none⟩ 1 1 (sc ⟨key, at_, pl⟩) (by rfl) rfl (by rw [← hsz0]; exact new_cells w0.drew _ 73) (sc_one _) (by decide) (by unfold maxLen; omega) (by omega) (by have := hwx.bel.size; exact this) (w0.heap.size + 1) (by simp) ?_
  intro g9 cap9 w9 hown9 hgr9 hat9 hlt9
  have hk9 : ∀ (k o : Nat) (u : Value), w.heap.size ≤ k → w0.cell? ⟨k, o, none⟩ = some u → w9.cell? ⟨k, o, none⟩ = some u := fun k o u h1 h2 => by
    have h3 := keepCell hbx h2
    have hlt3 : k < (w0.drew.alloc (.cells #[.string key, .int .i64 at_, .bool pl] 73)).heap.size := by
      rcases Nat.lt_or_ge k (w0.drew.alloc (.cells #[.string key, .int .i64 at_, .bool pl] 73)).heap.size with hh | hh
      · exact hh
      · simp [World.cell?, Array.getElem?_eq_none hh] at h3
    rw [World.cell?_of_block (hgr9.block k hlt3 (fun e => by have := hnl k e.symm; omega))]
    exact h3
  have hd := hwx.down (s := ⟨key, at_, pl⟩) (by simpa using hown9) hgr9 (hat9.imp id (fun h => by rw [h]; simp))
  have hb9 : w9.cell? ⟨b, 0, none⟩ = some (.slice on now.length cn) := by
    rw [World.cell?_of_block (hgr9.block b hwx.lt (off_ne (own_off hwx.ns hwx.box (by decide))))]
    exact hwx.cells.1
  refine hKK.out _ _ ⟨hb9, hk9 _ _ _ (Nat.le_refl _) hS0.2.1, hk9 _ _ _ (Nat.le_refl _) hS0.2.2.1, hk9 _ _ _ (Nat.le_refl _) hS0.2.2.2⟩ (fun hS3 => ?_)
  clear hKK KK hS2
  simp only [Act.put, List.setIfInBounds_toArray, List.set_cons_zero, List.set_cons_succ]
  refine take_h (i := 8) (v := ?_) rfl (by kernel_rfl) (by kernel_rfl) (by kernel_rfl) (fun _ _ _ h => h) (by rfl) ?_ hS3 ?_
  rotate_left
  · (intro X hX; go_simp; try with_reducible rfl)
  simp only [Act.put, List.setIfInBounds_toArray, List.set_cons_zero, List.set_cons_succ]
  refine take_h (i := 9) (v := ?_) rfl (by kernel_rfl) (by kernel_rfl) (by kernel_rfl) (fun _ _ _ h => h) (by rfl) ?_ hS3 ?_
  rotate_left
  · (intro X hX; go_simp; try with_reducible rfl)
  simp only [Act.put, List.setIfInBounds_toArray, List.set_cons_zero, List.set_cons_succ]
  refine wpAnyH_done (by kernel_rfl) ?_ _
  change Oper.wp _ _ _ _ _ _
  have hf9 : w9.frozen? ⟨b, 0, none⟩ = false := by
    have h1 := (hgr9.block b hwx.lt (off_ne (own_off hwx.ns hwx.box (by decide)))).trans hwx.box
    simp [World.frozen?, h1]
  have hv : ∀ (o : Nat) (u : Value), w0.cell? ⟨w.heap.size + 1, o, none⟩ = some u → (w9.setCell ⟨b, 0, none⟩ (.slice (some ⟨g9, 0, none⟩) (now.length + 1) cap9)).cell? ⟨w.heap.size + 1, o, none⟩ = some u := fun o u h => by
    rw [set_other _ _ _ _ _ _ (.inl (by omega))]; exact hk9 _ _ _ (by omega) h
  have v0 := hv 0 (.int .i64 T.kd) (by rw [← hw0]; simp)
  have v1 := hv 1 (.int .i64 T.nm) (by rw [← hw0]; simp)
  have v2 := hv 2 (.string T.st) (by rw [← hw0]; simp)
  have v3 := hv 3 (.slice o1 n1 c1) (by rw [← hw0]; simp)
  have v4 := hv 4 (.slice o2 n2 c2) (by rw [← hw0]; simp)
  have hbd := hd.bel
  have C := hid (HV0.out hP _ _ b _ _ _ _ _ HT.out hd (by simp; omega) (by omega))
  simp only [vv] at C
  clear hd hv hk9 hgr9 hown9 hS0 hS3 hwx hwk hns HK HW hbx hb0 hb1 hw0
  go_simp
  generalize w9.setCell ⟨b, 0, none⟩ (.slice (some ⟨g9, 0, none⟩) (now.length + 1) cap9) = wA at *
  go_wp2_with fail
  go_at_call 27
  refine C.out.mono ?_
  rintro e w2 ⟨rfl, nv2, pv2, E2, hw2, hE2⟩
  obtain ⟨g2, cap2, rfl, hc2⟩ : ∃ g2 cap2, nv2 = .slice (some ⟨g2, 0, none⟩) (now.length + 1) cap2 ∧ now.length + 1 ≤ cap2 := by
    rcases hw2.ns.2 with ⟨-, e⟩ | ⟨g, cap, cur, rfl, -, -, h1, -⟩
    · simp at e
    · simp at h1; exact ⟨g, cap, by simp, h1⟩
  obtain ⟨q0, q1, qf⟩ := hw2.cells
  have HU := hid hw2.up
  have HE2 := hid hE2
  clear hw2 hE2 C
  go_wp2_with fail
  refine wp_region_ends2 (S := fun X => X.cell? ⟨b, 0, none⟩ = some (.slice (some ⟨g2, 0, none⟩) (now.length + 1) cap2)) (by simp) (by kernel_rfl) (by kernel_rfl) (by kernel_rfl) (by kernel_rfl) (by kernel_rfl) (by kernel_rfl) ?_
  simp only [List.dropLast, List.getLast_cons_cons, List.getLast_singleton, List.length_cons, List.length_nil]
  have hS0 : w2.drew.cell? ⟨b, 0, none⟩ = some (.slice (some ⟨g2, 0, none⟩) (now.length + 1) cap2) := q0
  have hwr : IntKind.i64.wrap (now.length : Int) = now.length := by rw [IntKind.wrap_i64]; omega
  refine take_h (i := 0) (v := ?_) rfl (by kernel_rfl) (by kernel_rfl) (by kernel_rfl) (fun _ _ _ h => h) (by rfl) ?_ hS0 ?_
  rotate_left
  · (intro X hX; go_simp; try with_reducible rfl)
  simp only [Act.put, List.setIfInBounds_toArray, List.set_cons_zero, List.set_cons_succ]
  refine take_h (i := 1) (v := ?_) rfl (by kernel_rfl) (by kernel_rfl) (by kernel_rfl) (fun _ _ _ h => h) (by rfl) ?_ hS0 ?_
  rotate_left
  · (intro X hX; go_simp; try with_reducible rfl)
  simp only [Act.put, List.setIfInBounds_toArray, List.set_cons_zero, List.set_cons_succ]
  refine take_h (i := 2) (v := ?_) rfl (by kernel_rfl) (by kernel_rfl) (by kernel_rfl) (fun _ _ _ h => h) (by rfl) ?_ hS0 ?_
  rotate_left
  · (intro X hX; go_simp; try with_reducible rfl)
  simp only [Act.put, List.setIfInBounds_toArray, List.set_cons_zero, List.set_cons_succ]
  refine take_h (i := 3) (v := ?_) rfl (by kernel_rfl) (by kernel_rfl) (by kernel_rfl) (fun _ _ _ h => h) (by rfl) ?_ hS0 ?_
  rotate_left
  · (intro X hX; go_simp; try with_reducible rfl)
  simp only [Act.put, List.setIfInBounds_toArray, List.set_cons_zero, List.set_cons_succ]
  refine take_h (i := 4) (v := ?_) rfl (by kernel_rfl) (by kernel_rfl) (by kernel_rfl) (fun _ _ _ h => h) (by rfl) ?_ hS0 ?_
  rotate_left
  · (intro X hX; go_simp; try with_reducible rfl)
  simp only [Act.put, List.setIfInBounds_toArray, List.set_cons_zero, List.set_cons_succ]
  refine take_h (i := 5) (v := ?_) rfl (by kernel_rfl) (by kernel_rfl) (by kernel_rfl) (fun _ _ _ h => h) (by rfl) ?_ hS0 ?_
  rotate_left
  · (intro X hX; go_simp; try with_reducible rfl)
  simp only [Act.put, List.setIfInBounds_toArray, List.set_cons_zero, List.set_cons_succ]
  refine take_h (i := 6) (v := ?_) rfl (by kernel_rfl) (by kernel_rfl) (by kernel_rfl) (fun _ _ _ h => h) (by rfl) ?_ hS0 ?_
  rotate_left
  · (intro X hX; go_simp; try with_reducible rfl)
  simp only [Act.put, List.setIfInBounds_toArray, List.set_cons_zero, List.set_cons_succ]
  refine take_h (i := 7) (v := ?_) rfl (by kernel_rfl) (by kernel_rfl) (by kernel_rfl) (fun _ _ _ h => h) (by rfl) ?_ hS0 ?_
  rotate_left
  · (intro X hX; go_simp; try with_reducible rfl)
  simp only [Act.put, List.setIfInBounds_toArray, List.set_cons_zero, List.set_cons_succ]
  refine take_h (i := 8) (v := ?_) rfl (by kernel_rfl) (by kernel_rfl) (by kernel_rfl) (fun _ _ _ h => h) (by rfl) ?_ hS0 ?_
  rotate_left
  · (intro X hX; go_simp; try with_reducible rfl)
  simp only [Act.put, List.setIfInBounds_toArray, List.set_cons_zero, List.set_cons_succ]
  refine take_h (i := 9) (v := ?_) rfl (by kernel_rfl) (by kernel_rfl) (by kernel_rfl) (fun _ _ _ h => h) (by rfl) ?_ hS0 ?_
  rotate_left
  · (intro X hX; go_simp; try with_reducible rfl)
  simp only [Act.put, List.setIfInBounds_toArray, List.set_cons_zero, List.set_cons_succ]
  refine take_h (i := 10) (v := .int .i64 (now.length : Int)) rfl (by kernel_rfl) (by kernel_rfl) (by kernel_rfl) (fun _ _ _ h => h) (by rfl) ?_ hS0 ?_
  · (intro X hX; go_simp)
  simp only [Act.put, List.setIfInBounds_toArray, List.set_cons_zero, List.set_cons_succ]
  refine take_h (i := 11) (v := .slice (some ⟨g2, 0, none⟩) now.length cap2) rfl (by kernel_rfl) (by kernel_rfl) (by kernel_rfl) (fun _ _ _ h => h) (by rfl) ?_ hS0 ?_
  · (intro X hX; go_simp; try (intro hh; exact absurd hh (by omega)))
  simp only [Act.put, List.setIfInBounds_toArray, List.set_cons_zero, List.set_cons_succ]
  refine take_h (i := 12) (v := ?_) rfl (by kernel_rfl) (by kernel_rfl) (by kernel_rfl) (fun _ _ _ h => h) (by rfl) ?_ hS0 ?_
  rotate_left
  · (intro X hX; go_simp; try with_reducible rfl)
  simp only [Act.put, List.setIfInBounds_toArray, List.set_cons_zero, List.set_cons_succ]
  refine take_h (i := 13) (v := ?_) rfl (by kernel_rfl) (by kernel_rfl) (by kernel_rfl) (fun _ _ _ h => h) (by rfl) ?_ hS0 ?_
  rotate_left
  · (intro X hX; go_simp; try with_reducible rfl)
  simp only [Act.put, List.setIfInBounds_toArray, List.set_cons_zero, List.set_cons_succ]
  refine wpAnyH_done (by kernel_rfl) ?_ _
  change Oper.wp _ _ _ _ _ _
  go_simp
  go_wp2_with fail
  refine bodyPost_end (v := .tuple #[]) (by simp [results, Tryz.results47, go_sem]) rfl ?_
  exact ⟨rfl, _, _, E2, HU.out.onto (Below.refl _ _).drew, HE2.out⟩
end Go.Proofs.YtjcgkihkjjaefaaGreatDoor
namespace Go.Proofs.YtjcgkihkjjaefaaGreatDoor
open Go.RowKit

end Go.Proofs.YtjcgkihkjjaefaaGreatDoor
