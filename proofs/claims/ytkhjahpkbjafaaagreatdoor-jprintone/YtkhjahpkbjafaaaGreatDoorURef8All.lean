
import Derived.Test.YtkhjahpkbjafaaaGreatDoorUMathRead
import Derived.Test.YtkhjahpkbjafaaaGreatDoorULexTail
import Derived.Test.YtkhjahpkbjafaaaGreatDoorUOrders
import Derived.Test.YtkhjahpkbjafaaaGreatDoorUVHold
import Derived.Test.YtkhjahpkbjafaaaGreatDoorURefVal7
/- The document's reader of words: its memory; the word ahead, a sign, a fault. -/
/- The document's reader of words: numbers, words of letters; what it promises. -/
/- The document's reader of words: a value. -/
/- The document's reader of words: a list. -/
/- The document's reader of words: a map; the reader whole. -/
/- The document's reader of words, whole: its words are good, its value. -/
/- The document's Parse. -/
namespace Go.Proofs.YtkhjahpkbjafaaaGreatDoor
open Go.RowKit

/-- only the reader's own cells among the elder ones have changed -/
def Own (b : Nat) (w w' : World) : Prop := w.grownBy w' (some b)
theorem Own.of {b : Nat} {w w' : World} (h : Below w.heap.size w w') : Own b w w' := ⟨h.os, h.tape, h.output, h.size, fun k hk _ => h.block k hk⟩
theorem Own.trans {b : Nat} {w w1 w2 : World} (h : Own b w w1) (k : Own b w1 w2) : Own b w w2 :=
  ⟨k.os.trans h.os, k.tape.trans h.tape, k.output.trans h.output, Nat.le_trans h.size k.size, fun i hi hn => (k.block i (Nat.lt_of_lt_of_le hi h.size) hn).trans (h.block i hi hn)⟩
theorem Own.refl (b : Nat) (w : World) : Own b w w := ⟨rfl, rfl, rfl, Nat.le_refl _, fun _ _ _ => rfl⟩
theorem Own.set {b : Nat} {w w1 : World} (h : Own b w w1) (o : Nat) (u : Value) : Own b w (w1.setCell ⟨b, o, none⟩ u) :=
  h.trans (set_grown w1 b o u)
theorem Own.cell {b : Nat} {w w' : World} (h : Own b w w') {a : Addr} {u : Value} (hc : w.cell? a = some u) (hn : ¬ a.block = b) : w'.cell? a = some u := by
  rw [World.cell?_of_block (w := w) (h.block a.block (World.block_lt_of_cell? w a hc) (fun e => hn (by injection e with e)))]; exact hc
theorem isM_no {c : UInt8} {x : Wd} {r : List Wd} (h : ¬ (x.kd = 1 ∧ x.tx = [c])) : isM c (x :: r) = false := decide_eq_false h
theorem isM_yes {c : UInt8} {x : Wd} {r : List Wd} (h : x.kd = 1 ∧ x.tx = [c]) : isM c (x :: r) = true := decide_eq_true h
end Go.Proofs.YtkhjahpkbjafaaaGreatDoor
namespace Go.Proofs.YtkhjahpkbjafaaaGreatDoor
open Go.RowKit

theorem lit_is (s : ByteArray) (l : List UInt8) (h : s.data.toList = l) : (s.toList == l) = true := by rw [Lib.toList_data, h]; exact beq_self_eq_true _
theorem lit_no (s : ByteArray) (l : List UInt8) (h : ¬ s.data.toList = l) : (s.toList == l) = false := by rw [Lib.toList_data]; exact beq_eq_false_iff_ne.2 h
/-- words in memory, none in the reader's own block -/
def Wm (w : World) (b : Nat) (ws : List Wd) (v : Value) : Prop := ∃ (o : Option Addr) (a : Addr) (cap : Nat), v = .slice o ws.length cap ∧ ws.length ≤ cap ∧ cap ≤ maxLen ∧ (0 < ws.length → o = some a) ∧ ¬ a.block = b ∧ ∀ i x, ws[i]? = some x →
  w.cell? (a.add (i * 3)) = some (.int .i64 (x.kd : Nat)) ∧ w.cell? ⟨(a.add (i * 3)).block, (a.add (i * 3)).off + 1, none⟩ = some (.string (mkS x.tx)) ∧ w.cell? ⟨(a.add (i * 3)).block, (a.add (i * 3)).off + 2, none⟩ = some (.int .i64 (x.at_ : Nat))
theorem Wm.own {w w' : World} {b : Nat} {ws : List Wd} {v : Value} (h : Wm w b ws v) (hb : Own b w w') : Wm w' b ws v := by
  obtain ⟨o, a, c, h1, h2, h3, h4, h0, h5⟩ := h
  have hn : ∀ i, ¬ (a.add i).block = b := fun i e => h0 (by rw [← addr_block a i]; exact e)
  exact ⟨o, a, c, h1, h2, h3, h4, h0, fun i x hx => ⟨hb.cell (h5 i x hx).1 (hn _), hb.cell (h5 i x hx).2.1 (hn _), hb.cell (h5 i x hx).2.2 (hn _)⟩⟩
theorem Wm.onto {w w' : World} {b : Nat} {ws : List Wd} {v : Value} (h : Wm w b ws v) (hb : Below w.heap.size w w') : Wm w' b ws v := h.own (Own.of hb)
theorem hs_leaf (w : World) (S : Nat → Prop) (k n : Int) (s : ByteArray) (hk : (Lit.int .i64 k).wf = true) (hn : (Lit.int .i64 n).wf = true) (hs : s.size ≤ maxLen) : HS w S (leafT k n s) (.slice none 0 0) (.slice none 0 0) :=
  .mk ⟨0, 0, none⟩ ⟨0, 0, none⟩ (fun _ => .int .i64 0) (fun _ => .int .i64 0) (fun _ => .int .i64 0) (fun _ => .int .i64 0) hk hn hs
    ⟨none, 0, rfl, Nat.le_refl _, Nat.zero_le _, fun h => absurd h (Nat.lt_irrefl 0)⟩ ⟨none, 0, rfl, Nat.le_refl _, Nat.zero_le _, fun h => absurd h (Nat.lt_irrefl 0)⟩ rfl
    (fun h => absurd h (Nat.lt_irrefl 0)) (fun h => absurd h (Nat.lt_irrefl 0)) (fun i t h => by simp at h) (fun i t h => by simp at h) (fun i t h => by simp at h) (fun i t h => by simp at h) (fun i t h => by simp at h)
end Go.Proofs.YtkhjahpkbjafaaaGreatDoor
namespace Go.Proofs.YtkhjahpkbjafaaaGreatDoor
open Go.RowKit

theorem Own.put1 {b : Nat} {w w1 : World} (h : Own b w w1) {H : Nat} (hH : w.heap.size ≤ H) (o : Nat) (u : Value) : Own b w (w1.setCell ⟨H, o, none⟩ u) :=
  ⟨(show (w1.setCell ⟨H, o, none⟩ u).os = w1.os from rfl).trans h.os, (show (w1.setCell ⟨H, o, none⟩ u).tape = w1.tape from rfl).trans h.tape, (show (w1.setCell ⟨H, o, none⟩ u).output = w1.output from rfl).trans h.output, by have := h.size; simpa using this, fun k hk hn => (Below.heap_setCell _ _ _ _ (by show k ≠ H; omega)).trans (h.block k hk hn)⟩
theorem Own.put {b : Nat} {w w1 : World} (h : Own b w w1) {H o : Nat} (hH : w.heap.size ≤ H) (v0 v1 v2 v3 v4 : Value) : Own b w (put5 w1 H o v0 v1 v2 v3 v4) := by
  unfold put5
  exact Own.put1 (Own.put1 (Own.put1 (Own.put1 (Own.put1 h hH _ _) hH _ _) hH _ _) hH _ _) hH _ _
theorem Z5.far {w w' : World} {H b : Nat} (h : Z5 w H) (ho : Own b w w') (hn : ¬ H = b) : Z5 w' H := by
  have hl : H < w.heap.size := World.block_lt_of_cell? w ⟨H, 0, none⟩ h.1.1
  obtain ⟨⟨h0, h1, h2, h3, h4⟩, hf⟩ := h
  have e : w'.heap[H]? = w.heap[H]? := ho.block H hl (fun e => hn (by injection e with e))
  have c : ∀ o, w'.cell? ⟨H, o, none⟩ = w.cell? ⟨H, o, none⟩ := fun o => World.cell?_of_block (w := w) e
  exact ⟨⟨(c 0).trans h0, (c 1).trans h1, (c 2).trans h2, (c 3).trans h3, (c 4).trans h4⟩, fun o => (World.frozen?_of_block (a := ⟨H, o, none⟩) e).trans (hf o)⟩
theorem hs_put {w : World} {H lo : Nat} {T : VT} {x y v0 v1 v2 v3 v4 : Value} (hb : H < lo) (h : HS w (fun k => lo ≤ k ∧ k < w.heap.size) T x y) {lo' : Nat} (hl : lo' ≤ lo) : HS (put5 w H 0 v0 v1 v2 v3 v4) (fun k => lo' ≤ k ∧ k < (put5 w H 0 v0 v1 v2 v3 v4).heap.size) T x y := by
  rw [put5_size]
  exact h.onto (fun k hk => put5_heap _ _ _ _ _ _ _ _ _ (by omega)) (fun k hk => ⟨by omega, hk.2⟩)
theorem num_hs (w : World) (S : Nat → Prop) {l : List UInt8} (h : (mkS l).size ≤ maxLen) : HS w S (numT l) (.slice none 0 0) (.slice none 0 0) := by
  unfold numT
  split
  · exact hs_leaf _ _ _ _ _ (by decide) (intV_wf _) (by decide)
  · exact hs_leaf _ _ _ _ _ (by decide) (by decide) h
theorem lit_hs (w : World) (S : Nat → Prop) {l : List UInt8} (_h : (mkS l).size ≤ maxLen) : HS w S (litT l) (.slice none 0 0) (.slice none 0 0) := by
  unfold litT
  split
  · exact hs_leaf _ _ _ _ _ (by decide) (by decide) (by decide)
  · split
    · exact hs_leaf _ _ _ _ _ (by decide) (by decide) (by decide)
    · exact hs_leaf _ _ _ _ _ (by decide) (by decide) (by decide)
end Go.Proofs.YtkhjahpkbjafaaaGreatDoor
namespace Go.Proofs.YtkhjahpkbjafaaaGreatDoor
open Go.RowKit

theorem Z5.same {w w' : World} {H : Nat} (h : Z5 w H) (e : w'.heap[H]? = w.heap[H]?) : Z5 w' H := by
  obtain ⟨⟨h0, h1, h2, h3, h4⟩, hf⟩ := h
  have c : ∀ o, w'.cell? ⟨H, o, none⟩ = w.cell? ⟨H, o, none⟩ := fun o => World.cell?_of_block (w := w) e
  exact ⟨⟨(c 0).trans h0, (c 1).trans h1, (c 2).trans h2, (c 3).trans h3, (c 4).trans h4⟩, fun o => (World.frozen?_of_block (a := ⟨H, o, none⟩) e).trans (hf o)⟩
/-- a list that is being read: its parts in a row of its own, its box, the result's box -/
structure L8 (w wr : World) (b : Nat) (E : List (VT × Value × Value)) (u : Value) : Prop where
  own : wr.ownsRow (w.heap.size + 2) 27 5 u E.length (E.flatMap vc)
  prt : ∀ e ∈ E, HS wr (fun q => w.heap.size + 2 ≤ q ∧ q < wr.heap.size ∧ ¬ u.ownBlock = some q) e.1 e.2.1 e.2.2
  box : Bx5 wr (w.heap.size + 1) (.int .i64 5) (.int .i64 0) (.string ⟨#[]⟩) u (.slice none 0 0)
  row : Row wr (w.heap.size + 1) 27 5
  zer : Z5 wr w.heap.size
  ow : Own b w wr
  big : w.heap.size + 2 ≤ wr.heap.size
theorem L8.far {w wr w' : World} {b : Nat} {E : List (VT × Value × Value)} {u : Value} (h : L8 w wr b E u) (ho : Own b wr w') (hb : b < w.heap.size) : L8 w w' b E u := by
  have hs := ho.size
  have hbig := h.big
  have hbl : ∀ q, q < wr.heap.size → ¬ q = b → w'.heap[q]? = wr.heap[q]? := fun q hq hn => ho.block q hq (fun e => hn (by injection e with e))
  refine ⟨h.own.kept ho ?_, fun e he => (h.prt e he).onto (fun q hq => hbl q hq.2.1 (by omega)) (fun q hq => ⟨hq.1, by omega, hq.2.2⟩), h.box.same (hbl _ (by omega) (by omega)), h.row.onto (hbl _ (by omega) (by omega)), h.zer.far ho (by omega), Own.trans h.ow ho, by omega⟩
  cases hv : u.ownBlock with
  | none => exact Or.inl rfl
  | some g => have := (h.own.lt g hv).1; exact Or.inr (fun e => by injection e with e; omega)
theorem L8.more {w w2 w2' w3 : World} {b : Nat} {E : List (VT × Value × Value)} {u : Value} {T : VT} {X Y : Value} {l0 g cap : Nat} (h : L8 w w2 b E u) (hX : HS w2 (fun q => l0 ≤ q ∧ q < w2.heap.size) T X Y) (hl : w.heap.size + 2 ≤ l0) (hu : ∀ g', u.ownBlock = some g' → g' < l0)
    (hb2 : Below w2.heap.size w2 w2') (hg : w2'.grownBy w3 u.ownBlock) (hat : u.ownBlock = some g ∨ g = w2'.heap.size) 
    (hown : w3.ownsRow (w.heap.size + 2) 27 5 (.slice (some ⟨g, 0, none⟩) (E.length + 1) cap) (E.length + 1) (E.flatMap vc ++ vc (T, X, Y))) :
    L8 w (w3.setCell ⟨w.heap.size + 1, 3, none⟩ (.slice (some ⟨g, 0, none⟩) (E.length + 1) cap)) b (E ++ [(T, X, Y)]) (.slice (some ⟨g, 0, none⟩) (E.length + 1) cap) := by
  have s2 := hb2.size
  have s3 := hg.size
  have hbig := h.big
  have hul : ∀ g', u.ownBlock = some g' → w.heap.size + 2 ≤ g' ∧ g' < w2.heap.size := fun g' hg' => h.own.lt g' hg'
  have hgne : ∀ q, q < w2.heap.size → ¬ u.ownBlock = some q → ¬ g = q := by
    intro q hq hn e
    subst e
    rcases hat with h' | h'
    · exact hn h'
    · omega
  have hgl : w.heap.size + 2 ≤ g := by
    rcases hat with h' | h'
    · exact (hul g h').1
    · omega
  have hbl : ∀ q, q < w2.heap.size → ¬ u.ownBlock = some q → ¬ q = w.heap.size + 1 → (w3.setCell ⟨w.heap.size + 1, 3, none⟩ (.slice (some ⟨g, 0, none⟩) (E.length + 1) cap)).heap[q]? = w2.heap[q]? := fun q hq hn h1 =>
    (Below.heap_setCell _ _ _ _ h1).trans ((hg.block q (by omega) (fun e => hn e.symm)).trans (hb2.block q hq))
  have hr3 : Row w3 (w.heap.size + 1) 27 5 := h.row.onto ((hg.block _ (by omega) (fun e => by have := hul _ e.symm; omega)).trans (hb2.block _ (by omega)))
  obtain ⟨c0, c1, c2, c3, c4⟩ := h.box
  have hc : ∀ o, w3.cell? ⟨w.heap.size + 1, o, none⟩ = w2.cell? ⟨w.heap.size + 1, o, none⟩ := fun o => World.cell?_of_block (w := w2) ((hg.block _ (by show w.heap.size + 1 < _; omega) (fun e => by have := hul _ e.symm; simp at this)).trans (hb2.block _ (by show w.heap.size + 1 < _; omega)))
  refine ⟨?_, fun e he => ?_, ⟨(set_other _ _ _ _ _ _ (Or.inr (by omega))).trans ((hc 0).trans c0), (set_other _ _ _ _ _ _ (Or.inr (by omega))).trans ((hc 1).trans c1), (set_other _ _ _ _ _ _ (Or.inr (by omega))).trans ((hc 2).trans c2), set_same hr3 (by omega) _, (set_other _ _ _ _ _ _ (Or.inr (by omega))).trans ((hc 4).trans c4)⟩, hr3.set _ _, ?_, ?_, by simp; omega⟩
  · rw [List.flatMap_append, List.length_append]
    refine World.ownsRow.kept (by simpa using hown) (set_grown w3 _ 3 _) (Or.inr (fun e => ?_))
    simp [Value.ownBlock] at e
    omega
  · have hsz : (w3.setCell ⟨w.heap.size + 1, 3, none⟩ (.slice (some ⟨g, 0, none⟩) (E.length + 1) cap)).heap.size = w3.heap.size := by simp
    rw [hsz]
    rcases List.mem_append.1 he with he | he
    · refine (h.prt e he).onto (fun q hq => hbl q hq.2.1 hq.2.2 (by omega)) (fun q hq => ⟨hq.1, by omega, fun e' => hgne q hq.2.1 hq.2.2 (by simpa [Value.ownBlock] using e')⟩)
    · obtain rfl := List.mem_singleton.1 he
      have hno : ∀ q, l0 ≤ q → ¬ u.ownBlock = some q := fun q hq e' => by have := hu q e'; omega
      exact hX.onto (fun q hq => hbl q hq.2 (hno q hq.1) (by omega)) (fun q hq => ⟨by omega, by omega, fun e' => hgne q hq.2 (hno q hq.1) (by simpa [Value.ownBlock] using e')⟩)
  · refine h.zer.same ((Below.heap_setCell _ _ _ _ (by show w.heap.size ≠ w.heap.size + 1; omega)).trans ((hg.block _ (by omega) (fun e => by have := hul _ e.symm; omega)).trans (hb2.block _ (by omega))))
  · have ho3 : Own b w w3 := ⟨hg.os.trans (hb2.os.trans h.ow.os), hg.tape.trans (hb2.tape.trans h.ow.tape), hg.output.trans (hb2.output.trans h.ow.output), by have := h.ow.size; omega, fun q hq hn => (hg.block q (by omega) (fun e => by have := hul _ e.symm; omega)).trans ((hb2.block q (by omega)).trans (h.ow.block q hq hn))⟩
    exact Own.put1 ho3 (by omega) _ _
/-- what is read so far, as a list -/
theorem L8.tree {w wr : World} {b : Nat} {E : List (VT × Value × Value)} {u : Value} (h : L8 w wr b E u) (v0 v1 v2 v3 v4 : Value) : HS (put5 wr w.heap.size 0 v0 v1 v2 v3 v4) (fun q => w.heap.size ≤ q ∧ q < (put5 wr w.heap.size 0 v0 v1 v2 v3 v4).heap.size) (listT (E.map (·.1))) u (.slice none 0 0) := by
  have hbig := h.big
  have hl := own_ls (S := fun q => w.heap.size + 2 ≤ q ∧ q < wr.heap.size) h.own (fun e he => (h.prt e he).onto (fun _ _ => rfl) (fun q hq => ⟨hq.1, hq.2.1⟩)) (fun g hg => h.own.lt g hg)
  have hm : MS wr (fun q => w.heap.size + 2 ≤ q ∧ q < wr.heap.size) [] [] (.slice none 0 0) := ⟨⟨0, 0, none⟩, fun _ => .nilIface, fun _ => .nilIface, ⟨none, 0, rfl, Nat.le_refl _, Nat.zero_le _, fun h => absurd h (by simp)⟩, rfl, fun h => absurd h (by simp), fun i t h => by simp at h, fun i t h => by simp at h, fun i t h => by simp at h⟩
  have ht : HS wr (fun q => w.heap.size + 2 ≤ q ∧ q < wr.heap.size) (listT (E.map (·.1))) u (.slice none 0 0) := hs_of (T := listT (E.map (·.1))) ⟨list_wf.1, list_wf.2.2, (by decide : (⟨#[]⟩ : ByteArray).size ≤ maxLen)⟩ hl hm
  exact hs_put (H := w.heap.size) (lo := w.heap.size + 2) (by omega) ht (lo' := w.heap.size) (by omega)
end Go.Proofs.YtkhjahpkbjafaaaGreatDoor
namespace Go.Proofs.YtkhjahpkbjafaaaGreatDoor
open Go.RowKit

/-- a map that is being read: its box, the result's box -/
structure M8 (w wr : World) (b : Nat) (P : List (ByteArray × VT)) (u : Value) : Prop where
  tr : HS wr (fun q => w.heap.size + 2 ≤ q ∧ q < wr.heap.size) (mapT P) (.slice none 0 0) u
  box : Bx5 wr (w.heap.size + 1) (.int .i64 6) (.int .i64 0) (.string ⟨#[]⟩) (.slice none 0 0) u
  row : Row wr (w.heap.size + 1) 27 5
  zer : Z5 wr w.heap.size
  ow : Own b w wr
  big : w.heap.size + 2 ≤ wr.heap.size
theorem M8.far {w wr w' : World} {b : Nat} {P : List (ByteArray × VT)} {u : Value} (h : M8 w wr b P u) (ho : Own b wr w') (hb : b < w.heap.size) : M8 w w' b P u := by
  have hs := ho.size
  have hbig := h.big
  have hbl : ∀ q, q < wr.heap.size → ¬ q = b → w'.heap[q]? = wr.heap[q]? := fun q hq hn => ho.block q hq (fun e => hn (by injection e with e))
  exact ⟨h.tr.onto (fun q hq => hbl q hq.2 (by omega)) (fun q hq => ⟨hq.1, by omega⟩), h.box.same (hbl _ (by omega) (by omega)), h.row.onto (hbl _ (by omega) (by omega)), h.zer.far ho (by omega), Own.trans h.ow ho, by omega⟩
/-- another map in its box -/
theorem M8.put {w wr : World} {b : Nat} {P P' : List (ByteArray × VT)} {u u' : Value} (h : M8 w wr b P u) (ht : HS wr (fun q => w.heap.size + 2 ≤ q ∧ q < wr.heap.size) (mapT P') (.slice none 0 0) u') : M8 w (put5 wr (w.heap.size + 1) 0 (.int .i64 6) (.int .i64 0) (.string ⟨#[]⟩) (.slice none 0 0) u') b P' u' := by
  have hbig := h.big
  have hn := put5_node h.row 0 (by omega) (mapT P') (.slice none 0 0) u'
  simp only [Node, Nat.zero_add] at hn
  refine ⟨?_, hn, put5_row h.row _ _ _ _ _ _ _, h.zer.same (put5_heap _ _ _ _ _ _ _ _ _ (by omega)), Own.put h.ow (by omega) _ _ _ _ _, by rw [put5_size]; exact hbig⟩
  rw [put5_size]
  exact ht.onto (fun q hq => put5_heap _ _ _ _ _ _ _ _ _ (by omega)) (fun q hq => hq)
theorem M8.tree {w wr : World} {b : Nat} {P : List (ByteArray × VT)} {u : Value} (h : M8 w wr b P u) (v0 v1 v2 v3 v4 : Value) : HS (put5 wr w.heap.size 0 v0 v1 v2 v3 v4) (fun q => w.heap.size ≤ q ∧ q < (put5 wr w.heap.size 0 v0 v1 v2 v3 v4).heap.size) (mapT P) (.slice none 0 0) u :=
  hs_put (H := w.heap.size) (lo := w.heap.size + 2) (by omega) h.tr (lo' := w.heap.size) (by omega)
end Go.Proofs.YtkhjahpkbjafaaaGreatDoor
namespace Go.Proofs.YtkhjahpkbjafaaaGreatDoor
open Go.RowKit

theorem lw_good8 (T : List UInt8) (i : Nat) (h : (lw T i).er = 0) : ¬ (lw T i).kd = 0 ∧ (lw T i).tx.length ≤ 65536 := by
  unfold lw at h ⊢
  cases hb : T[i]? with
  | none => rw [hb] at h; simp at h
  | some c =>
    rw [hb] at h
    simp only at h ⊢
    split at h
    · rename_i h1; rw [if_pos h1]; exact ⟨by simp, by simp⟩
    · rename_i h1
      rw [if_neg h1]
      split at h
      · rename_i h2; rw [if_pos h2]; exact ⟨by simp, by simp⟩
      · rename_i h2
        rw [if_neg h2]
        split at h
        · rename_i h3
          rw [if_pos h3]
          unfold lwS at h ⊢
          split at h
          · simp at h
          · rename_i h4
            rw [if_neg h4]
            split at h
            · simp at h
            · rename_i h5; rw [if_neg h5]; exact ⟨by simp, by simp only; omega⟩
        · rename_i h3
          rw [if_neg h3]
          split at h
          · rename_i h4
            rw [if_pos h4]
            unfold lwN at h ⊢
            split at h
            · simp at h
            · rename_i h5
              rw [if_neg h5]
              split at h
              · simp at h
              · rename_i h6
                rw [if_neg h6]
                split at h
                · simp at h
                · rename_i h7
                  rw [if_neg h7]
                  refine ⟨by simp, ?_⟩
                  have := List.length_take_le (run numC (T.drop i)) (T.drop i)
                  simp only
                  omega
          · rename_i h4
            rw [if_neg h4]
            unfold lwL at h ⊢
            split at h
            · rename_i h5
              rw [if_pos h5]
              refine ⟨by simp, ?_⟩
              unfold litB at h5
              rw [decide_eq_true_eq] at h5
              simp only
              rcases h5 with h5 | h5 | h5 <;> rw [h5] <;> decide
            · simp at h
theorem lx_good (T : List UInt8) : ∀ (f i : Nat) (acc ws : List Wd) (a : Nat), lx T f i acc = (ws, 0, a) → (∀ x ∈ acc, ¬ x.kd = 0 ∧ x.tx.length ≤ 65536) → EndW ws ∧ ws.length ≤ acc.length + f ∧ ∀ x ∈ ws, x.tx.length ≤ 65536
  | 0, i, acc, ws, a, h, _ => by rw [lx] at h; simp at h
  | f + 1, i, acc, ws, a, h, hA => by
    rw [lx] at h
    split at h
    · injection h with h1 h2
      subst h1
      refine ⟨⟨acc, _, rfl, rfl, fun x hx => (hA x hx).1⟩, by simp, fun x hx => ?_⟩
      rcases List.mem_append.1 hx with h | h
      · exact (hA x h).2
      · rw [List.mem_singleton.1 h]; simp
    · split at h
      · rename_i he
        injection h with h1 h2
        injection h2 with h2 h3
        exact absurd h2 he
      · rename_i he
        have hg := lw_good8 T i (Classical.not_not.1 he)
        split at h
        · obtain ⟨k1, k2, k3⟩ := lx_good T f _ acc ws a h hA
          exact ⟨k1, by omega, k3⟩
        · obtain ⟨k1, k2, k3⟩ := lx_good T f _ _ ws a h (fun x hx => by
            rcases List.mem_append.1 hx with h | h
            · exact hA x h
            · rw [List.mem_singleton.1 h]; exact hg)
          exact ⟨k1, by rw [List.length_append] at k2; simp only [List.length_singleton] at k2; omega, k3⟩
theorem cut_good {T : List UInt8} (h : (cutA T).2.1 = 0) : EndW (cutA T).1 ∧ (cutA T).1.length ≤ 65537 ∧ ∀ x ∈ (cutA T).1, x.tx.length ≤ 65536 := by
  unfold cutA at h ⊢
  split at h
  · simp at h
  · rename_i h1
    rw [if_neg h1]
    split at h
    · simp at h
    · rename_i h2
      rw [if_neg h2]
      have hp2 : lx T (T.length + 1) 0 [] = ((lx T (T.length + 1) 0 []).1, 0, (lx T (T.length + 1) 0 []).2.2) := by
        generalize lx T (T.length + 1) 0 [] = p at h ⊢
        obtain ⟨p1, p2, p3⟩ := p
        simp only at h
        rw [h]
      obtain ⟨k1, k2, k3⟩ := lx_good T _ _ _ _ _ hp2 (fun x hx => by simp at hx)
      exact ⟨k1, by simp at k2; omega, k3⟩
end Go.Proofs.YtkhjahpkbjafaaaGreatDoor
namespace Go.Proofs.YtkhjahpkbjafaaaGreatDoor
open Go.RowKit

/-- what Parse answers -/
def Pp (R : Rd) (w : World) (e : Ending) (w' : World) : Prop := match R with
  | .ok T _ _ => ∃ X Y, e = .returned (.tuple #[vv T X Y, .agg #[.int .i64 0, .int .i64 0]]) ∧ HS w' (fun k => w.heap.size ≤ k ∧ k < w'.heap.size) T X Y ∧ Below w.heap.size w w'
  | .bad er a => e = .returned (.tuple #[vv zeroT (.slice none 0 0) (.slice none 0 0), .agg #[.int .i64 (er : Int), .int .i64 (a : Int)]]) ∧ ¬ er = 0 ∧ Below w.heap.size w w'
theorem own_bel {b : Nat} {w W W' : World} (h : Below w.heap.size w W) (ho : Own b W W') (hb : w.heap.size ≤ b) : Below w.heap.size w W' :=
  ⟨ho.os.trans h.os, ho.tape.trans h.tape, ho.output.trans h.output, Nat.le_trans h.size ho.size, fun k hk => (ho.block k (Nat.lt_of_lt_of_le hk h.size) (fun e => by injection e with e; omega)).trans (h.block k hk)⟩
theorem put5_bel8 {B : Nat} {a w : World} {b o : Nat} {v0 v1 v2 v3 v4 : Value} (h : Below B a w) (hb : B ≤ b) : Below B a (put5 w b o v0 v1 v2 v3 v4) :=
  ((((h.setCell (p := ⟨b, o, none⟩) hb _).setCell (p := ⟨b, o + 1, none⟩) hb _).setCell (p := ⟨b, o + 2, none⟩) hb _).setCell (p := ⟨b, o + 3, none⟩) hb _).setCell (p := ⟨b, o + 4, none⟩) hb _
def put2 (w : World) (b : Nat) (e a : Value) : World := (w.setCell ⟨b, 0, none⟩ e).setCell ⟨b, 1, none⟩ a
end Go.Proofs.YtkhjahpkbjafaaaGreatDoor
