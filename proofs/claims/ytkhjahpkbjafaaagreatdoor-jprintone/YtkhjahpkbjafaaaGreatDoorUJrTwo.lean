
import Derived.Test.YtkhjahpkbjafaaaGreatDoorUJrOne
import Derived.Maps.OwnSet
/- The program's reader: a part of a list. -/
/- The program's reader: a part of a list, walked. -/
/- The program's reader: a list. -/
/- The program's reader: a key that its map has not. -/
/- The program's reader: a pair of a map. -/
namespace Go.Proofs.YtkhjahpkbjafaaaGreatDoor
open Go.RowKit

section
variable {P : Program} {Q : Exit → Act → World → Prop} {md : Region.Mode}
/-- two that may come up now -/
theorem step2_h {i j : Nat} {oi oj : Oper} {fuel : Nat} {listed : Array Bool} {a : Act} {w : World} {l : List Oper} {S : World → Prop} (hi : l[i]? = some oi) (hj : l[j]? = some oj) (hr : Region.ready md l.toArray listed = [i, j])
    (h1 : ∀ K : Act → World → Prop, Shut (∀ a w, S w → (S w → wpAnyH P md l.toArray Q S fuel (listed.setIfInBounds i true) a w) → K a w) → if Region.wanted oi (yielded l.toArray a.tmps) = true then Oper.wp P oi a w K Q else K (a.put oi.dst undef) w)
    (h2 : ∀ K : Act → World → Prop, Shut (∀ a w, S w → (S w → wpAnyH P md l.toArray Q S fuel (listed.setIfInBounds j true) a w) → K a w) → if Region.wanted oj (yielded l.toArray a.tmps) = true then Oper.wp P oj a w K Q else K (a.put oj.dst undef) w) : wpAnyH P md l.toArray Q S (fuel + 1) listed a w :=
  wpAnyH_ready hr (by simp) (AllReadyH.cons (by rw [List.getElem?_toArray]; exact hi) h1 (AllReadyH.cons (by rw [List.getElem?_toArray]; exact hj) h2 AllReadyH.nil))
/-- three that may come up now -/
theorem step3_h {i j k : Nat} {oi oj ok : Oper} {fuel : Nat} {listed : Array Bool} {a : Act} {w : World} {l : List Oper} {S : World → Prop} (hi : l[i]? = some oi) (hj : l[j]? = some oj) (hk : l[k]? = some ok) (hr : Region.ready md l.toArray listed = [i, j, k])
    (h1 : ∀ K : Act → World → Prop, Shut (∀ a w, S w → (S w → wpAnyH P md l.toArray Q S fuel (listed.setIfInBounds i true) a w) → K a w) → if Region.wanted oi (yielded l.toArray a.tmps) = true then Oper.wp P oi a w K Q else K (a.put oi.dst undef) w)
    (h2 : ∀ K : Act → World → Prop, Shut (∀ a w, S w → (S w → wpAnyH P md l.toArray Q S fuel (listed.setIfInBounds j true) a w) → K a w) → if Region.wanted oj (yielded l.toArray a.tmps) = true then Oper.wp P oj a w K Q else K (a.put oj.dst undef) w)
    (h3 : ∀ K : Act → World → Prop, Shut (∀ a w, S w → (S w → wpAnyH P md l.toArray Q S fuel (listed.setIfInBounds k true) a w) → K a w) → if Region.wanted ok (yielded l.toArray a.tmps) = true then Oper.wp P ok a w K Q else K (a.put ok.dst undef) w) : wpAnyH P md l.toArray Q S (fuel + 1) listed a w :=
  wpAnyH_ready hr (by simp) (AllReadyH.cons (by rw [List.getElem?_toArray]; exact hi) h1 (AllReadyH.cons (by rw [List.getElem?_toArray]; exact hj) h2 (AllReadyH.cons (by rw [List.getElem?_toArray]; exact hk) h3 AllReadyH.nil)))
end
/-- a list that is being read: its parts in a row of its own; the closure's boxes, the result's -/
structure LJ (w wr : World) (b d : Nat) (E : List (VT × Value × Value)) (u : Value) : Prop where
  own : wr.ownsRow (w.heap.size + 3) 27 5 u E.length (E.flatMap vc)
  nb : ¬ u.ownBlock = some (w.heap.size + 4)
  prt : ∀ e ∈ E, HS wr (fun q => w.heap.size + 5 ≤ q ∧ q < wr.heap.size ∧ ¬ u.ownBlock = some q) e.1 e.2.1 e.2.2
  ci : wr.cell? ⟨w.heap.size + 4, 0, none⟩ = some u
  ri : Row wr (w.heap.size + 4) 24 1
  cr : wr.cell? ⟨w.heap.size, 0, none⟩ = some (.pointer (some ⟨b, 0, none⟩))
  cd : wr.cell? ⟨w.heap.size + 1, 0, none⟩ = some (.int .i64 (d : Int))
  zer : Z5 wr (w.heap.size + 2)
  big : w.heap.size + 5 ≤ wr.heap.size
theorem LJ.far {w wr w' : World} {b d : Nat} {E : List (VT × Value × Value)} {u : Value} (h : LJ w wr b d E u) (ho : Own b wr w') (hb : b < w.heap.size) : LJ w w' b d E u := by
  have hs := ho.size
  have hbig := h.big
  have hbl : ∀ q, q < wr.heap.size → ¬ q = b → w'.heap[q]? = wr.heap[q]? := fun q hq hn => ho.block q hq (fun e => hn (by injection e with e))
  refine ⟨h.own.kept ho ?_, h.nb, fun e he => (h.prt e he).onto (fun q hq => hbl q hq.2.1 (by omega)) (fun q hq => ⟨hq.1, by omega, hq.2.2⟩), ho.cell h.ci (by show ¬ w.heap.size + 4 = b; omega), h.ri.onto (hbl _ (by omega) (by omega)), ho.cell h.cr (by show ¬ w.heap.size = b; omega), ho.cell h.cd (by show ¬ w.heap.size + 1 = b; omega), h.zer.far ho (by omega), by omega⟩
  cases hv : u.ownBlock with
  | none => exact Or.inl rfl
  | some g => have := (h.own.lt g hv).1; exact Or.inr (fun e => by injection e with e; omega)
theorem own_shape {w : World} {base n : Nat} {ty : TypeId} {k : Nat} {u : Value} {xs : List Value} (h : w.ownsRow base ty k u n xs) : ∃ o c, u = .slice o n c := by
  rcases h with ⟨-, ⟨rfl, h0⟩ | ⟨g, cap, cur, rfl, -⟩⟩
  · exact ⟨none, 0, by rw [h0]⟩
  · exact ⟨_, _, rfl⟩
/-- what is left behind the two stores, in whichever order: one element of the row, one cell of a box -/
structure Mo (w9 wF : World) (g I o : Nat) (v x0 x1 x2 x3 x4 : Value) : Prop where
  blk : ∀ q, q ≠ g → q ≠ I → wF.heap[q]? = w9.heap[q]?
  row : ∀ (base : Nat) (ty : TypeId) (k n cap : Nat) (xs : List Value), w9.ownsRow base ty k (.slice (some ⟨g, 0, none⟩) n cap) n xs → wF.ownsRow base ty k (.slice (some ⟨g, 0, none⟩) n cap) n (((((xs.set o x0).set (o + 1) x1).set (o + 2) x2).set (o + 3) x3).set (o + 4) x4)
  cell : ∀ (ty : TypeId), Row w9 I ty 1 → wF.cell? ⟨I, 0, none⟩ = some v
  rowI : ∀ (ty : TypeId), Row w9 I ty 1 → Row wF I ty 1
  size : wF.heap.size = w9.heap.size
  os : wF.os = w9.os
  tape : wF.tape = w9.tape
  output : wF.output = w9.output
theorem set_io (w : World) (a : Addr) (u : Value) : (w.setCell a u).os = w.os ∧ (w.setCell a u).tape = w.tape ∧ (w.setCell a u).output = w.output := ⟨rfl, rfl, rfl⟩
theorem put5_io (w : World) (b o : Nat) (v0 v1 v2 v3 v4 : Value) : (put5 w b o v0 v1 v2 v3 v4).os = w.os ∧ (put5 w b o v0 v1 v2 v3 v4).tape = w.tape ∧ (put5 w b o v0 v1 v2 v3 v4).output = w.output := by
  unfold put5
  simp only [set_io, and_self]
theorem put5_stored {w : World} {base : Nat} {ty : TypeId} {k n cap g : Nat} {xs : List Value} (h : w.ownsRow base ty k (.slice (some ⟨g, 0, none⟩) n cap) n xs) (o : Nat) (x0 x1 x2 x3 x4 : Value) : (put5 w g o x0 x1 x2 x3 x4).ownsRow base ty k (.slice (some ⟨g, 0, none⟩) n cap) n (((((xs.set o x0).set (o + 1) x1).set (o + 2) x2).set (o + 3) x3).set (o + 4) x4) :=
  ((((((h.stored o x0).1).stored (o + 1) x1).1.stored (o + 2) x2).1.stored (o + 3) x3).1.stored (o + 4) x4).1
theorem mo_a {w9 : World} {g I o : Nat} {v x0 x1 x2 x3 x4 : Value} (hne : ¬ g = I) : Mo w9 ((put5 w9 g o x0 x1 x2 x3 x4).setCell ⟨I, 0, none⟩ v) g I o v x0 x1 x2 x3 x4 := by
  refine ⟨fun q h1 h2 => (Below.heap_setCell _ _ _ _ h2).trans (put5_heap _ _ _ _ _ _ _ _ _ h1), fun base ty k n cap xs h => ?_, fun ty h => ?_, fun ty h => ?_, by simp [put5_size], ((set_io _ _ _).1).trans (put5_io _ _ _ _ _ _ _ _).1, ((set_io _ _ _).2.1).trans (put5_io _ _ _ _ _ _ _ _).2.1, ((set_io _ _ _).2.2).trans (put5_io _ _ _ _ _ _ _ _).2.2⟩
  · exact (put5_stored h o x0 x1 x2 x3 x4).kept (set_grown _ I 0 v) (Or.inr (fun e => hne (by simpa [Value.ownBlock] using e)))
  · exact set_same (put5_row h g o x0 x1 x2 x3 x4) (by omega) _
  · exact (put5_row h g o x0 x1 x2 x3 x4).set _ _
theorem mo_b {w9 : World} {g I o : Nat} {v x0 x1 x2 x3 x4 : Value} (hne : ¬ g = I) : Mo w9 (put5 (w9.setCell ⟨I, 0, none⟩ v) g o x0 x1 x2 x3 x4) g I o v x0 x1 x2 x3 x4 := by
  refine ⟨fun q h1 h2 => (put5_heap _ _ _ _ _ _ _ _ _ h1).trans (Below.heap_setCell _ _ _ _ h2), fun base ty k n cap xs h => ?_, fun ty h => ?_, fun ty h => ?_, by simp [put5_size], ((put5_io _ _ _ _ _ _ _ _).1).trans (set_io _ _ _).1, ((put5_io _ _ _ _ _ _ _ _).2.1).trans (set_io _ _ _).2.1, ((put5_io _ _ _ _ _ _ _ _).2.2).trans (set_io _ _ _).2.2⟩
  · exact put5_stored (h.kept (set_grown _ I 0 v) (Or.inr (fun e => hne (by simpa [Value.ownBlock] using e)))) o x0 x1 x2 x3 x4
  · rw [World.cell?_of_block (w := w9.setCell ⟨I, 0, none⟩ v) (put5_heap _ _ _ _ _ _ _ _ _ (fun e => hne e.symm))]
    exact set_same h (by omega) _
  · exact put5_row (h.set _ _) g o x0 x1 x2 x3 x4
theorem set_five {L : List Value} {o : Nat} (hL : L.length = o) (z0 z1 z2 z3 z4 x0 x1 x2 x3 x4 : Value) : ((((((L ++ [z0, z1, z2, z3, z4]).set o x0).set (o + 1) x1).set (o + 2) x2).set (o + 3) x3).set (o + 4) x4) = L ++ [x0, x1, x2, x3, x4] := by
  subst hL
  simp [List.set_append_right]
theorem flat_len {E : List (VT × Value × Value)} : (E.flatMap vc).length = E.length * 5 := by
  induction E with
  | nil => rfl
  | cons a E ih => rw [List.flatMap_cons, List.length_append, ih, List.length_cons]; simp only [vc, List.length_cons, List.length_nil]; omega
/-- one part more -/
theorem LJ.more {w X w9 wF : World} {b d : Nat} {E : List (VT × Value × Value)} {u : Value} {T : VT} {x y : Value} {l0 g cap : Nat} (h : LJ w X b d E u) (hX : HS X (fun q => l0 ≤ q ∧ q < X.heap.size) T x y) (hl : w.heap.size + 5 ≤ l0) (hu : ∀ g', u.ownBlock = some g' → g' < l0)
    (hown : w9.ownsRow (w.heap.size + 3) 27 5 (.slice (some ⟨g, 0, none⟩) (E.length + 1) cap) (E.length + 1) (E.flatMap vc ++ [.int .i64 0, .int .i64 0, .string ⟨#[]⟩, .slice none 0 0, .slice none 0 0]))
    (hg : X.grownBy w9 u.ownBlock) (hat : u.ownBlock = some g ∨ g = X.heap.size)
    (hm : Mo w9 wF g (w.heap.size + 4) (E.length * 5) (.slice (some ⟨g, 0, none⟩) (E.length + 1) cap) (.int .i64 T.kd) (.int .i64 T.nm) (.string T.st) x y) :
    LJ w wF b d (E ++ [(T, x, y)]) (.slice (some ⟨g, 0, none⟩) (E.length + 1) cap) ∧ (∀ q, q < w.heap.size + 5 → q ≠ w.heap.size + 3 → q ≠ w.heap.size + 4 → wF.heap[q]? = X.heap[q]?) ∧ wF.os = X.os ∧ wF.tape = X.tape ∧ wF.output = X.output ∧ X.heap.size ≤ wF.heap.size := by
  have s3 := hg.size
  have hbig := h.big
  have hul : ∀ g', u.ownBlock = some g' → w.heap.size + 3 ≤ g' ∧ g' < X.heap.size := fun g' hg' => h.own.lt g' hg'
  have hgI : ¬ g = w.heap.size + 4 := by
    rcases hat with h' | h'
    · intro e; exact h.nb (by rw [h', e])
    · omega
  have hgl : w.heap.size + 3 ≤ g := by
    rcases hat with h' | h'
    · exact (hul g h').1
    · omega
  have hgne : ∀ q, q < X.heap.size → ¬ u.ownBlock = some q → ¬ g = q := by
    intro q hq hn e
    subst e
    rcases hat with h' | h'
    · exact hn h'
    · omega
  have hbl : ∀ q, q < X.heap.size → ¬ u.ownBlock = some q → ¬ q = w.heap.size + 4 → wF.heap[q]? = X.heap[q]? := fun q hq hn h1 =>
    (hm.blk q (fun e => hgne q hq hn e.symm) h1).trans (hg.block q hq (fun e => hn e.symm))
  have hI9 : Row w9 (w.heap.size + 4) 24 1 := h.ri.onto (hg.block _ (by omega) (fun e => h.nb e.symm))
  have hno : ∀ q, q < w.heap.size + 3 → ¬ u.ownBlock = some q := fun q hq e => by have := hul q e; omega
  have hc : ∀ q, q < w.heap.size + 3 → wF.heap[q]? = X.heap[q]? := fun q hq => hbl q (by omega) (hno q hq) (by omega)
  have hsz := hm.size
  refine ⟨⟨?_, fun e => hgI (by simpa [Value.ownBlock] using e), fun e he => ?_, hm.cell _ hI9, hm.rowI _ hI9, (World.cell?_of_block (w := X) (hc w.heap.size (by omega))).trans h.cr, (World.cell?_of_block (w := X) (hc (w.heap.size + 1) (by omega))).trans h.cd, h.zer.same (hc _ (by omega)), by omega⟩, fun q h1 h2 h3 => ?_, hm.os.trans hg.os, hm.tape.trans hg.tape, hm.output.trans hg.output, by omega⟩
  · have := hm.row _ _ _ _ _ _ hown
    rw [set_five flat_len] at this
    rw [List.flatMap_append, List.length_append]
    simpa [vc] using this
  · rw [hsz]
    rcases List.mem_append.1 he with he | he
    · exact (h.prt e he).onto (fun q hq => hbl q hq.2.1 hq.2.2 (by omega)) (fun q hq => ⟨hq.1, by omega, fun e' => hgne q hq.2.1 hq.2.2 (by simpa [Value.ownBlock] using e')⟩)
    · obtain rfl := List.mem_singleton.1 he
      have hno' : ∀ q, l0 ≤ q → ¬ u.ownBlock = some q := fun q hq e' => by have := hu q e'; omega
      exact hX.onto (fun q hq => hbl q hq.2 (hno' q hq.1) (by omega)) (fun q hq => ⟨by omega, by omega, fun e' => hgne q hq.2 (hno' q hq.1) (by simpa [Value.ownBlock] using e')⟩)
  · exact hc q (by omega)
/-- what is read so far of a list -/
def AccL (w0 : World) (b d : Nat) (s : List VT) (n : Nat) (W : World) : Prop := szL s ≤ n ∧ ∃ E u, E.map (·.1) = s ∧ LJ w0 W b d E u
theorem accl_far {w0 : World} {b d : Nat} (hb : b < w0.heap.size) : ∀ s n W W', AccL w0 b d s n W → Own b W W' → AccL w0 b d s n W' := by
  rintro s n W W' ⟨h1, E, u, h2, h3⟩ ho
  exact ⟨h1, E, u, h2, h3.far ho hb⟩
/-- where the part's region stands, ahead of the reading -/
structure Kb (w0 X : World) (b : Nat) (t : ByteArray) (v : Value) (ws : List Wd) (n d K : Nat) (E : List (VT × Value × Value)) (u : Value) : Prop where
  aj : Aj X b t v ws n
  lj : LJ w0 X b d E u
  ow : Own b w0 X
theorem Kb.on {w0 X X' : World} {b : Nat} {t : ByteArray} {v : Value} {ws : List Wd} {n d K : Nat} {E : List (VT × Value × Value)} {u : Value} (h : Kb w0 X b t v ws n d K E u) (hb : b < w0.heap.size) (hX : Below X.heap.size X X') : Kb w0 X' b t v ws n d K E u :=
  ⟨⟨h.aj.jr.onto hX, h.aj.wm.onto hX, h.aj.ends, h.aj.fine, h.aj.len, h.aj.txt, h.aj.nod, h.aj.tsz, h.aj.gl.own (Own.of hX)⟩, h.lj.far (Own.of hX) hb, h.ow.trans (Own.of hX)⟩
/-- behind the reading -/
structure Ka (w0 X : World) (b : Nat) (t : ByteArray) (q : List Wd) (m d K l0 : Nat) (E : List (VT × Value × Value)) (u : Value) (T : VT) (x y : Value) : Prop where
  jr : ∃ v', Jr X b t v' m ∧ Wm X b q v' ∧ blkV v' = some K
  gl : Gb b X
  lj : LJ w0 X b d E u
  ow : Own b w0 X
  hx : HS X (fun k => l0 ≤ k ∧ k < X.heap.size) T x y
  hl : w0.heap.size + 5 ≤ l0
  hu : ∀ g', u.ownBlock = some g' → g' < l0
  le : l0 ≤ X.heap.size
theorem Ka.on {w0 X X' : World} {b : Nat} {t : ByteArray} {q : List Wd} {m d K l0 : Nat} {E : List (VT × Value × Value)} {u : Value} {T : VT} {x y : Value} (h : Ka w0 X b t q m d K l0 E u T x y) (hb : b < w0.heap.size) (hX : Below X.heap.size X X') : Ka w0 X' b t q m d K l0 E u T x y := by
  obtain ⟨v', h1, h2, h3⟩ := h.jr
  have hs := hX.size
  exact ⟨⟨v', h1.onto hX, h2.onto hX, h3⟩, h.gl.own (Own.of hX), h.lj.far (Own.of hX) hb, h.ow.trans (Own.of hX), h.hx.onto (fun k hk => hX.block k hk.2) (fun k hk => ⟨hk.1, by omega⟩), h.hl, h.hu, by have := h.le; omega⟩
theorem kb_read {w0 X X' : World} {b : Nat} {t : ByteArray} {v : Value} {ws : List Wd} {n d K : Nat} {E : List (VT × Value × Value)} {u : Value} {T : VT} {m : Nat} {q : List Wd} {e : Ending} (h : Kb w0 X b t v ws n d K E u) (hb : b < w0.heap.size) (hK : blkV v = some K) (hr : Rj b t v (.ok T m q) X e X') :
    ∃ o nn c o' n' c', e = .returned (vv T (.slice o nn c) (.slice o' n' c')) ∧ Ka w0 X' b t q m d K X.heap.size E u T (.slice o nn c) (.slice o' n' c') ∧ Own b X X' := by
  obtain ⟨x, y, v2, rfl, h1, h2, h3, h4, h5⟩ := hr
  obtain ⟨o, nn, c, o', n', c', rfl, rfl⟩ := hv_slices h4.hv
  exact ⟨o, nn, c, o', n', c', rfl, ⟨⟨v2, h1, h2, h3.trans hK⟩, h.aj.gl.own h5, h.lj.far h5 hb, h.ow.trans h5, h4, h.lj.big, fun g' hg' => (h.lj.own.lt g' hg').2, h5.size⟩, h5⟩
/-- the end of it -/
theorem ka_end {w0 X w9 wF : World} {b : Nat} {t : ByteArray} {q : List Wd} {m d K l0 g cap : Nat} {E : List (VT × Value × Value)} {u : Value} {T : VT} {x y : Value} {s : List VT} (h : Ka w0 X b t q m d K l0 E u T x y) (hb : b < w0.heap.size) (hK : K < w0.heap.size)
    (he : EndW q) (hfi : ∀ z ∈ q, Fine z) (hle : q.length ≤ 100000) (htx : ∀ z ∈ q, z.tx.length ≤ 65536) (hmd : m ≤ 4096) (hts : t.size ≤ 1000000) (hE : E.map (·.1) = s) (hsz : szL s + szT T ≤ m)
    (hown : w9.ownsRow (w0.heap.size + 3) 27 5 (.slice (some ⟨g, 0, none⟩) (E.length + 1) cap) (E.length + 1) (E.flatMap vc ++ [.int .i64 0, .int .i64 0, .string ⟨#[]⟩, .slice none 0 0, .slice none 0 0]))
    (hg : X.grownBy w9 u.ownBlock) (hat : u.ownBlock = some g ∨ g = X.heap.size)
    (hm : Mo w9 wF g (w0.heap.size + 4) (E.length * 5) (.slice (some ⟨g, 0, none⟩) (E.length + 1) cap) (.int .i64 T.kd) (.int .i64 T.nm) (.string T.st) x y) :
    ∃ v', Pv w0 b t K (AccL w0 b d) (s ++ [T]) m q v' wF := by
  obtain ⟨v', j1, j2, j3⟩ := h.jr
  obtain ⟨k1, k2, k3, k4, k5, k6⟩ := h.lj.more h.hx h.hl h.hu hown hg hat hm
  have hbl : ∀ r, r < w0.heap.size → wF.heap[r]? = X.heap[r]? := fun r hr => k2 r (by omega) (by omega) (by omega)
  have hOw : Own b w0 wF := ⟨k3.trans h.ow.os, k4.trans h.ow.tape, k5.trans h.ow.output, by have := h.ow.size; omega, fun r hr hn => (hbl r hr).trans (h.ow.block r hr hn)⟩
  obtain ⟨uu, g1, g2, g3⟩ := h.gl
  have hgb : Gb b wF := ⟨uu, g1, g2, ⟨k3.trans g3.os, k4.trans g3.tape, k5.trans g3.output, by have := g3.size; omega, fun r hr => (hbl r (by omega)).trans (g3.block r hr)⟩⟩
  refine ⟨v', ⟨j1.same (hbl b hb), j2.stay j3 (hbl K hK), he, hfi, hle, htx, hmd, hts, hgb⟩, j3, ⟨?_, E ++ [(T, x, y)], _, by rw [List.map_append, hE]; rfl, k1⟩, hOw⟩
  rw [szL_app]
  simp only [szL]
  omega

/-- what the stores behind the append find -/
theorem ka_row {w0 X w9 : World} {b : Nat} {t : ByteArray} {q : List Wd} {m d K l0 g cap : Nat} {E : List (VT × Value × Value)} {u : Value} {T : VT} {x y : Value} (h : Ka w0 X b t q m d K l0 E u T x y)
    (hown : w9.ownsRow (w0.heap.size + 3) 27 5 (.slice (some ⟨g, 0, none⟩) (E.length + 1) cap) (E.length + 1) (E.flatMap vc ++ [.int .i64 0, .int .i64 0, .string ⟨#[]⟩, .slice none 0 0, .slice none 0 0]))
    (hg : X.grownBy w9 u.ownBlock) (hat : u.ownBlock = some g ∨ g = X.heap.size) :
    w9.cell? ⟨w0.heap.size, 0, none⟩ = some (.pointer (some ⟨b, 0, none⟩)) ∧ w9.cell? ⟨w0.heap.size + 1, 0, none⟩ = some (.int .i64 (d : Int)) ∧ (w0.heap.size ≠ g ∧ w0.heap.size + 1 ≠ g ∧ ¬ g = w0.heap.size + 4) ∧
    w9.cell? ⟨g, E.length * 5, none⟩ = some (.int .i64 0) ∧ w9.cell? ⟨g, E.length * 5 + 1, none⟩ = some (.int .i64 0) ∧ w9.cell? ⟨g, E.length * 5 + 2, none⟩ = some (.string ⟨#[]⟩) ∧ w9.cell? ⟨g, E.length * 5 + 3, none⟩ = some (.slice none 0 0) ∧ w9.cell? ⟨g, E.length * 5 + 4, none⟩ = some (.slice none 0 0) ∧
    (∀ o, w9.frozen? ⟨g, o, none⟩ = false) ∧ w9.cell? ⟨w0.heap.size + 4, 0, none⟩ = some u ∧ (∀ o, w9.frozen? ⟨w0.heap.size + 4, o, none⟩ = false) := by
  have hul : ∀ g', u.ownBlock = some g' → w0.heap.size + 3 ≤ g' ∧ g' < X.heap.size := fun g' hg' => h.lj.own.lt g' hg'
  have hbig := h.lj.big
  have hgI : ¬ g = w0.heap.size + 4 := by
    rcases hat with h' | h'
    · intro e; exact h.lj.nb (by rw [h', e])
    · omega
  have hgl : w0.heap.size + 3 ≤ g := by
    rcases hat with h' | h'
    · exact (hul g h').1
    · omega
  have hbl : ∀ r, r < w0.heap.size + 3 → w9.heap[r]? = X.heap[r]? := fun r hr => hg.block r (by omega) (fun e => by have := hul r e.symm; omega)
  have hI : w9.heap[w0.heap.size + 4]? = X.heap[w0.heap.size + 4]? := hg.block _ (by omega) (fun e => h.lj.nb e.symm)
  have hc : ∀ j u', [Value.int .i64 0, .int .i64 0, .string ⟨#[]⟩, .slice none 0 0, .slice none 0 0][j]? = some u' → w9.cell? ⟨g, E.length * 5 + j, none⟩ = some u' := fun j u' hj => by
    have hj5 : j < 5 := lt_of_some hj
    rw [hown.cellAt (E.length * 5 + j) (by omega), List.getElem?_append_right (by rw [flat_len]; omega), flat_len, Nat.add_sub_cancel_left]
    exact hj
  refine ⟨(World.cell?_of_block (w := X) (hbl w0.heap.size (by omega))).trans h.lj.cr, (World.cell?_of_block (w := X) (hbl (w0.heap.size + 1) (by omega))).trans h.lj.cd, ⟨by omega, by omega, hgI⟩, hc 0 _ rfl, hc 1 _ rfl, hc 2 _ rfl, hc 3 _ rfl, hc 4 _ rfl, fun o => ?_, (World.cell?_of_block (w := X) hI).trans h.lj.ci, fun o => (World.frozen?_of_block (a := ⟨w0.heap.size + 4, o, none⟩) hI).trans (h.lj.ri.frozen o)⟩
  rcases hown.2 with ⟨h', _⟩ | ⟨g', cap', cur, h', hb, hgc, -⟩
  · simp at h'
  · simp only [Value.slice.injEq, Option.some.injEq, Addr.mk.injEq, and_true, true_and] at h'
    obtain ⟨rfl, rfl⟩ := h'
    simp [World.frozen?, hgc]
theorem mo_two {w0 w9 wF : World} {b d g o : Nat} {v x0 x1 x2 x3 x4 : Value} (hne : w0.heap.size ≠ g ∧ w0.heap.size + 1 ≠ g ∧ ¬ g = w0.heap.size + 4) (h : w9.cell? ⟨w0.heap.size, 0, none⟩ = some (.pointer (some ⟨b, 0, none⟩)) ∧ w9.cell? ⟨w0.heap.size + 1, 0, none⟩ = some (.int .i64 (d : Int))) (hm : Mo w9 wF g (w0.heap.size + 4) o v x0 x1 x2 x3 x4) :
    wF.cell? ⟨w0.heap.size, 0, none⟩ = some (.pointer (some ⟨b, 0, none⟩)) ∧ wF.cell? ⟨w0.heap.size + 1, 0, none⟩ = some (.int .i64 (d : Int)) :=
  ⟨(World.cell?_of_block (w := w9) (hm.blk _ hne.1 (by show w0.heap.size ≠ w0.heap.size + 4; omega))).trans h.1, (World.cell?_of_block (w := w9) (hm.blk _ hne.2.1 (by show w0.heap.size + 1 ≠ w0.heap.size + 4; omega))).trans h.2⟩
end Go.Proofs.YtkhjahpkbjafaaaGreatDoor
namespace Go.Proofs.YtkhjahpkbjafaaaGreatDoor
open Go.RowKit

set_option maxRecDepth 100000 in
set_option maxHeartbeats 16000000 in
theorem jlist1 (N : Nat) (hV : JvOk N) (w0 : World) (b : Nat) (t : ByteArray) (K d : Nat) (hd : d ≤ 32) (hbw : b < w0.heap.size) (hKw : K < w0.heap.size) (s : List VT) (n : Nat) (ws : List Wd) (v : Value) (W : World) (f : Nat) (hP : Pv w0 b t K (AccL w0 b d) s n ws v W) (hN : ws.length ≤ N) (hf : 2 * ws.length + 1 ≤ f) :
    Calls Tryz.prog 88 #[.pointer (some ⟨w0.heap.size + 4, 0, none⟩), .pointer (some ⟨w0.heap.size, 0, none⟩), .pointer (some ⟨w0.heap.size + 1, 0, none⟩)] W (Ps w0 b t K (AccL w0 b d) (stL d f s n ws)) := by
  obtain ⟨hszs, E, u, hE, hlj⟩ := hP.acc
  obtain ⟨oN, cN, rfl⟩ := own_shape hlj.own
  have hbk := hP.blk
  have hnod := hP.aj.nod
  have hlen : E.length ≤ 4096 := by have := len_szL s; rw [← hE, List.length_map, hE] at this; omega
  have HKB0 := hid (show Kb w0 W b t v ws n d K E (.slice oN E.length cN) from ⟨hP.aj, hlj, hP.own⟩)
  have HKB := hid (HKB0.out.on hbw (Below.refl W.heap.size W).drew)
  have hWs : w0.heap.size + 5 ≤ W.heap.size := hlj.big
  have HCV : Hid (∀ X, Aj X b t v ws n → Calls Tryz.prog 41 #[.pointer (some ⟨b, 0, none⟩), .int .i64 ((d : Int) + 1)] X (Rj b t v (jrV f (d + 1) n ws) X)) := hid (fun X hX => by
    have := hV b t v ws n (d + 1) X f hX (by omega) hN (by omega)
    simpa using this)
  have HEND0 : Hid (∀ (T : VT) (x y : Value) (m : Nat) (q : List Wd), jrV f (d + 1) n ws = .ok T m q → ∀ (X w9 : World) (l0 g cap : Nat), Ka w0 X b t q m d K l0 E (.slice oN E.length cN) T x y → w9.ownsRow (w0.heap.size + 3) 27 5 (.slice (some ⟨g, 0, none⟩) (E.length + 1) cap) (E.length + 1) (E.flatMap vc ++ [.int .i64 0, .int .i64 0, .string ⟨#[]⟩, .slice none 0 0, .slice none 0 0]) → X.grownBy w9 (Value.slice oN E.length cN).ownBlock → ((Value.slice oN E.length cN).ownBlock = some g ∨ g = X.heap.size) →
      ∀ wF, Mo w9 wF g (w0.heap.size + 4) (E.length * 5) (.slice (some ⟨g, 0, none⟩) (E.length + 1) cap) (.int .i64 T.kd) (.int .i64 T.nm) (.string T.st) x y → ∃ v', Pv w0 b t K (AccL w0 b d) (s ++ [T]) m q v' wF) := hid (fun T x y m q hv X w9 l0 g cap hka hown hgr hat wF hmo => by
    obtain ⟨he, hl, hnm, hm4⟩ := (jr_ends f).1 _ _ _ _ _ _ hP.aj.ends hv
    have hsf := (jr_suf f).1 _ _ _ _ _ _ hv
    have hz := (jr_sz f).1 _ _ _ _ _ _ hv
    have hle := hP.aj.len
    exact ka_end hka hbw hKw he (fun z hz => hP.aj.fine z (hsf.mem hz)) (by omega) (fun z hz => hP.aj.txt z (hsf.mem hz)) hm4 hP.aj.tsz hE (by omega) hown hgr hat hmo)
  obtain ⟨R0, hR0⟩ : ∃ R0, R0 = stL d f s n ws := ⟨_, rfl⟩
  rw [← hR0]
  have HST := hid hR0
  obtain ⟨i0, hi, hz0, hz1, hz2⟩ := info_parts Tryz.info27
  have hii : (E.length : Int) < (E.length : Int) + 1 := by omega
  have hwr : IntKind.i64.wrap ((d : Int) + 1) = (d : Int) + 1 := by rw [IntKind.wrap_i64]; omega
  clear hP hlj hR0 HKB0 hszs hE hV
  go_enter Tryz.func88, Tryz.ntmps88
  refine wp_region_h (S := fun X => X.cell? ⟨w0.heap.size, 0, none⟩ = some (.pointer (some ⟨b, 0, none⟩)) ∧ X.cell? ⟨w0.heap.size + 1, 0, none⟩ = some (.int .i64 (d : Int))) 11 (by kernel_rfl) (by kernel_rfl) ?_
  refine take_h (i := 1) (v := ?_) rfl (by kernel_rfl) (by kernel_rfl) (by kernel_rfl) (fun _ _ _ h => h) (by rfl) ?_ ⟨HKB.out.lj.cr, HKB.out.lj.cd⟩ ?_
  rotate_left
  · (intro X hX; obtain ⟨y0, y1⟩ := hX; go_simp; try with_reducible rfl)
  simp only [Act.put, List.setIfInBounds_toArray, List.set_cons_zero, List.set_cons_succ]
  refine take_h (i := 2) (v := ?_) rfl (by kernel_rfl) (by kernel_rfl) (by kernel_rfl) (fun _ _ _ h => h) (by rfl) ?_ ⟨HKB.out.lj.cr, HKB.out.lj.cd⟩ ?_
  rotate_left
  · (intro X hX; obtain ⟨y0, y1⟩ := hX; go_simp; try with_reducible rfl)
  simp only [Act.put, List.setIfInBounds_toArray, List.set_cons_zero, List.set_cons_succ]
  refine take_h (i := 3) (v := ?_) rfl (by kernel_rfl) (by kernel_rfl) (by kernel_rfl) (fun _ _ _ h => h) (by rfl) ?_ ⟨HKB.out.lj.cr, HKB.out.lj.cd⟩ ?_
  rotate_left
  · (intro X hX; obtain ⟨y0, y1⟩ := hX; go_simp; try with_reducible rfl)
  simp only [Act.put, List.setIfInBounds_toArray, List.set_cons_zero, List.set_cons_succ]
  refine step3_h (i := 0) (j := 4) (k := 6) rfl rfl rfl (by kernel_rfl) ?_ ?_ ?_
  · intro KK hKK
    have ci1 := HKB.out.lj.ci
    go_simp
    refine hKK.out _ _ ⟨HKB.out.lj.cr, HKB.out.lj.cd⟩ (fun _ => ?_)
    clear hKK KK ci1
    try simp only [Act.put, List.setIfInBounds_toArray, List.set_cons_zero, List.set_cons_succ]
    refine take_h (i := 5) (v := ?_) rfl (by kernel_rfl) (by kernel_rfl) (by kernel_rfl) (fun _ _ _ h => h) (by rfl) ?_ ⟨HKB.out.lj.cr, HKB.out.lj.cd⟩ ?_
    rotate_left
    · (intro X hX; obtain ⟨y0, y1⟩ := hX; go_simp; try with_reducible rfl)
    simp only [Act.put, List.setIfInBounds_toArray, List.set_cons_zero, List.set_cons_succ]
    refine step2_h (i := 4) (j := 6) rfl rfl (by kernel_rfl) ?_ ?_
    · intro KK hKK
      go_simp
      go_wp2_with fail
      go_at_call 41
      refine (HCV.out _ HKB.out.aj).mono ?_
      intro e w2 hp
      cases hv : jrV f (d + 1) n ws with
      | bad er a =>
        rw [hv] at hp
        rw [show stL d f s n ws = .bad er a by unfold stL; rw [hv]] at HST
        have hfa := hp.1
        have HPP : Hid (Ps w0 b t K (AccL w0 b d) R0 e w2) := hid (by rw [HST.out]; exact ⟨hp.1, HKB.out.ow.trans hp.2⟩)
        unfold Faulted at hfa
        subst hfa
        generalize faultV t (a : Int) (er : Int) = fv at HPP ⊢
        clear hp hv
        go_wp2_with fail
        first | exact ⟨rfl, HPP.out⟩ | exact HPP.out | (simp only [bodyPost]; exact HPP.out)
      | ok T m q =>
        rw [hv] at hp
        rw [show stL d f s n ws = .ok (s ++ [T]) m q by unfold stL; rw [hv]] at HST
        obtain ⟨t1, t2, t3, t4, t5, t6, rfl, hka, hoc⟩ := kb_read HKB.out hbw hbk hp
        have H3 := hid hka
        have HEND := hid (HEND0.out T (.slice t1 t2 t3) (.slice t4 t5 t6) m q hv)
        clear hp hka hoc
        simp only [vv]
        go_wp2_with fail
        refine hKK.out _ _ ⟨H3.out.lj.cr, H3.out.lj.cd⟩ (fun _ => ?_)
        clear hKK KK
        try simp only [Act.put, List.setIfInBounds_toArray, List.set_cons_zero, List.set_cons_succ]
        refine step_h (i := 6) rfl (by kernel_rfl) ?_
        intro KK hKK
        go_simp
        change KK _ (w2.alloc (.cells #[.int .i64 0, .int .i64 0, .string ⟨#[]⟩, .slice none 0 0, .slice none 0 0] 27))
        have H4 := hid (H3.out.on hbw (valloc_bel (Below.refl _ _) (.cells #[.int .i64 0, .int .i64 0, .string ⟨#[]⟩, .slice none 0 0, .slice none 0 0] 27)))
        have zc5 : Hid (∀ (j : Nat) (u : Value), ([.int .i64 0, .int .i64 0, .string ⟨#[]⟩, .slice none 0 0, .slice none 0 0] : List Value)[j]? = some u → (w2.alloc (.cells #[.int .i64 0, .int .i64 0, .string ⟨#[]⟩, .slice none 0 0, .slice none 0 0] 27)).cell? (Addr.add ⟨w2.heap.size, 0, none⟩ j) = some u) := hid (new_cells w2 [.int .i64 0, .int .i64 0, .string ⟨#[]⟩, .slice none 0 0, .slice none 0 0] 27)
        generalize (w2.alloc (.cells #[.int .i64 0, .int .i64 0, .string ⟨#[]⟩, .slice none 0 0, .slice none 0 0] 27)) = X6 at H4 zc5 ⊢
        refine hKK.out _ _ ⟨H4.out.lj.cr, H4.out.lj.cd⟩ (fun _ => ?_)
        clear hKK KK
        try simp only [Act.put, List.setIfInBounds_toArray, List.set_cons_zero, List.set_cons_succ]
        have hsx := H4.out.ow.size
        have hbg := H4.out.lj.big
        refine step_h (i := 7) rfl (by kernel_rfl) ?_
        intro KK hKK
        refine step_append_lies _ (by rfl) _ _ _ (by rfl) (w0.heap.size + 3) 27 i0 (.agg #[.int .i64 0, .int .i64 0, .string ⟨#[]⟩, .slice none 0 0, .slice none 0 0]) 5 80 Tryz.underlying24 hi hz0 hz1 hz2 rfl (by decide) _ E.length _ (by rfl) H4.out.lj.own ⟨w2.heap.size, 0, none⟩ 1 1 [.int .i64 0, .int .i64 0, .string ⟨#[]⟩, .slice none 0 0, .slice none 0 0] (by rfl) rfl zc5.out (by intro u hu; simp at hu; rcases hu with rfl | rfl | rfl | rfl | rfl <;> rfl) (by decide) (by unfold maxLen; omega) (by omega) (by omega) X6.heap.size rfl ?_
        intro g9 cap9 w9 hown9 hgr9 hat9 hlt9
        obtain ⟨y0, y1, hne9, r0, r1, r2, r3, r4, rf, x0, xf⟩ := ka_row H4.out hown9 hgr9 hat9
        have hS9 : w9.cell? ⟨w0.heap.size, 0, none⟩ = some (.pointer (some ⟨b, 0, none⟩)) ∧ w9.cell? ⟨w0.heap.size + 1, 0, none⟩ = some (.int .i64 (d : Int)) := ⟨y0, y1⟩
        refine hKK.out _ _ hS9 (fun _ => ?_)
        clear hKK KK
        try simp only [Act.put, List.setIfInBounds_toArray, List.set_cons_zero, List.set_cons_succ]
        refine take_h (i := 8) (v := ?_) rfl (by kernel_rfl) (by kernel_rfl) (by kernel_rfl) (fun _ _ _ h => h) (by rfl) ?_ hS9 ?_
        rotate_left
        · (intro X hX; obtain ⟨y0, y1⟩ := hX; go_simp; try with_reducible rfl)
        simp only [Act.put, List.setIfInBounds_toArray, List.set_cons_zero, List.set_cons_succ]
        have hnd := hid (HEND.out _ _ _ _ _ H4.out hown9 hgr9 hat9)
        refine step2_h (i := 9) (j := 10) rfl rfl (by kernel_rfl) ?_ ?_
        · intro KK hKK
          go_simp
          change KK _ (put5 w9 g9 (E.length * 5) (.int .i64 T.kd) (.int .i64 T.nm) (.string T.st) (.slice t1 t2 t3) (.slice t4 t5 t6))
          have q0 := (World.cell?_of_block (w := w9) (a := ⟨w0.heap.size, 0, none⟩) (put5_heap w9 g9 (E.length * 5) (.int .i64 T.kd) (.int .i64 T.nm) (.string T.st) (.slice t1 t2 t3) (.slice t4 t5 t6) w0.heap.size hne9.1)).trans y0
          have q1 := (World.cell?_of_block (w := w9) (a := ⟨w0.heap.size + 1, 0, none⟩) (put5_heap w9 g9 (E.length * 5) (.int .i64 T.kd) (.int .i64 T.nm) (.string T.st) (.slice t1 t2 t3) (.slice t4 t5 t6) (w0.heap.size + 1) hne9.2.1)).trans y1
          have q2 := (World.cell?_of_block (w := w9) (a := ⟨w0.heap.size + 4, 0, none⟩) (put5_heap w9 g9 (E.length * 5) (.int .i64 T.kd) (.int .i64 T.nm) (.string T.st) (.slice t1 t2 t3) (.slice t4 t5 t6) (w0.heap.size + 4) (fun e => hne9.2.2 e.symm))).trans x0
          have q3 := (World.frozen?_of_block (w := w9) (a := ⟨w0.heap.size + 4, 0, none⟩) (put5_heap w9 g9 (E.length * 5) (.int .i64 T.kd) (.int .i64 T.nm) (.string T.st) (.slice t1 t2 t3) (.slice t4 t5 t6) (w0.heap.size + 4) (fun e => hne9.2.2 e.symm))).trans (xf 0)
          have HFI : Hid (Mo w9 ((put5 w9 g9 (E.length * 5) (.int .i64 T.kd) (.int .i64 T.nm) (.string T.st) (.slice t1 t2 t3) (.slice t4 t5 t6)).setCell ⟨w0.heap.size + 4, 0, none⟩ (.slice (some ⟨g9, 0, none⟩) (E.length + 1) cap9)) g9 (w0.heap.size + 4) (E.length * 5) (.slice (some ⟨g9, 0, none⟩) (E.length + 1) cap9) (.int .i64 T.kd) (.int .i64 T.nm) (.string T.st) (.slice t1 t2 t3) (.slice t4 t5 t6)) := hid (mo_a hne9.2.2)
          have HS2 := hid (mo_two hne9 ⟨y0, y1⟩ HFI.out)
          have HPE := hid (hnd.out _ HFI.out)
          generalize (put5 w9 g9 (E.length * 5) (.int .i64 T.kd) (.int .i64 T.nm) (.string T.st) (.slice t1 t2 t3) (.slice t4 t5 t6)) = WA at q0 q1 q2 q3 HS2 HPE ⊢
          clear HFI r0 r1 r2 r3 r4 rf x0 xf y0 y1 hS9
          refine hKK.out _ _ ⟨q0, q1⟩ (fun hSA => ?_)
          clear hKK KK
          refine step_h (i := 10) rfl (by kernel_rfl) ?_
          intro KK hKK
          go_simp
          refine hKK.out _ _ HS2.out (fun _ => ?_)
          clear hKK KK
          refine wpAnyH_done (by kernel_rfl) ?_ _
          first | go_end0 | refine bodyPost_ret (results_none rfl _ _ _) rfl ?_
          rw [HST.out]; exact ⟨rfl, HPE.out⟩
        · intro KK hKK
          go_simp
          have q0 := (set_other w9 (w0.heap.size + 4) w0.heap.size 0 0 (.slice (some ⟨g9, 0, none⟩) (E.length + 1) cap9) (Or.inl (by omega))).trans y0
          have q1 := (set_other w9 (w0.heap.size + 4) (w0.heap.size + 1) 0 0 (.slice (some ⟨g9, 0, none⟩) (E.length + 1) cap9) (Or.inl (by omega))).trans y1
          have s0 := (set_other w9 (w0.heap.size + 4) g9 0 (E.length * 5) (.slice (some ⟨g9, 0, none⟩) (E.length + 1) cap9) (Or.inl (fun e => hne9.2.2 e.symm))).trans r0
          have s1 := (set_other w9 (w0.heap.size + 4) g9 0 (E.length * 5 + 1) (.slice (some ⟨g9, 0, none⟩) (E.length + 1) cap9) (Or.inl (fun e => hne9.2.2 e.symm))).trans r1
          have s2 := (set_other w9 (w0.heap.size + 4) g9 0 (E.length * 5 + 2) (.slice (some ⟨g9, 0, none⟩) (E.length + 1) cap9) (Or.inl (fun e => hne9.2.2 e.symm))).trans r2
          have s3 := (set_other w9 (w0.heap.size + 4) g9 0 (E.length * 5 + 3) (.slice (some ⟨g9, 0, none⟩) (E.length + 1) cap9) (Or.inl (fun e => hne9.2.2 e.symm))).trans r3
          have s4 := (set_other w9 (w0.heap.size + 4) g9 0 (E.length * 5 + 4) (.slice (some ⟨g9, 0, none⟩) (E.length + 1) cap9) (Or.inl (fun e => hne9.2.2 e.symm))).trans r4
          have sf : ∀ o, (w9.setCell ⟨w0.heap.size + 4, 0, none⟩ (.slice (some ⟨g9, 0, none⟩) (E.length + 1) cap9)).frozen? ⟨g9, o, none⟩ = false := fun o => (World.frozen?_of_block (w := w9) (a := ⟨g9, o, none⟩) (Below.heap_setCell _ _ _ _ hne9.2.2)).trans (rf o)
          have HFI : Hid (Mo w9 (put5 (w9.setCell ⟨w0.heap.size + 4, 0, none⟩ (.slice (some ⟨g9, 0, none⟩) (E.length + 1) cap9)) g9 (E.length * 5) (.int .i64 T.kd) (.int .i64 T.nm) (.string T.st) (.slice t1 t2 t3) (.slice t4 t5 t6)) g9 (w0.heap.size + 4) (E.length * 5) (.slice (some ⟨g9, 0, none⟩) (E.length + 1) cap9) (.int .i64 T.kd) (.int .i64 T.nm) (.string T.st) (.slice t1 t2 t3) (.slice t4 t5 t6)) := hid (mo_b hne9.2.2)
          have HS2 := hid (mo_two hne9 ⟨y0, y1⟩ HFI.out)
          have HPE := hid (hnd.out _ HFI.out)
          generalize (w9.setCell ⟨w0.heap.size + 4, 0, none⟩ (.slice (some ⟨g9, 0, none⟩) (E.length + 1) cap9)) = WA at q0 q1 s0 s1 s2 s3 s4 sf HS2 HPE ⊢
          clear HFI r0 r1 r2 r3 r4 rf x0 xf y0 y1 hS9
          refine hKK.out _ _ ⟨q0, q1⟩ (fun hSA => ?_)
          clear hKK KK
          refine step_h (i := 9) rfl (by kernel_rfl) ?_
          intro KK hKK
          go_simp
          change KK _ (put5 WA g9 (E.length * 5) (.int .i64 T.kd) (.int .i64 T.nm) (.string T.st) (.slice t1 t2 t3) (.slice t4 t5 t6))
          refine hKK.out _ _ HS2.out (fun _ => ?_)
          clear hKK KK
          refine wpAnyH_done (by kernel_rfl) ?_ _
          first | go_end0 | refine bodyPost_ret (results_none rfl _ _ _) rfl ?_
          rw [HST.out]; exact ⟨rfl, HPE.out⟩
    · intro KK hKK
      go_simp
      change KK _ (W.drew.alloc (.cells #[.int .i64 0, .int .i64 0, .string ⟨#[]⟩, .slice none 0 0, .slice none 0 0] 27))
      have H7 := hid (HKB.out.on hbw (valloc_bel (Below.refl _ _) (.cells #[.int .i64 0, .int .i64 0, .string ⟨#[]⟩, .slice none 0 0, .slice none 0 0] 27)))
      have zc8 : Hid (∀ (j : Nat) (u : Value), ([.int .i64 0, .int .i64 0, .string ⟨#[]⟩, .slice none 0 0, .slice none 0 0] : List Value)[j]? = some u → (W.drew.alloc (.cells #[.int .i64 0, .int .i64 0, .string ⟨#[]⟩, .slice none 0 0, .slice none 0 0] 27)).cell? (Addr.add ⟨W.heap.size, 0, none⟩ j) = some u) := hid (new_cells W.drew [.int .i64 0, .int .i64 0, .string ⟨#[]⟩, .slice none 0 0, .slice none 0 0] 27)
      generalize (W.drew.alloc (.cells #[.int .i64 0, .int .i64 0, .string ⟨#[]⟩, .slice none 0 0, .slice none 0 0] 27)) = X9 at H7 zc8 ⊢
      refine hKK.out _ _ ⟨H7.out.lj.cr, H7.out.lj.cd⟩ (fun _ => ?_)
      clear hKK KK
      try simp only [Act.put, List.setIfInBounds_toArray, List.set_cons_zero, List.set_cons_succ]
      refine step_h (i := 4) rfl (by kernel_rfl) ?_
      intro KK hKK
      go_simp
      go_wp2_with fail
      go_at_call 41
      refine (HCV.out _ H7.out.aj).mono ?_
      intro e w10 hp
      cases hv : jrV f (d + 1) n ws with
      | bad er a =>
        rw [hv] at hp
        rw [show stL d f s n ws = .bad er a by unfold stL; rw [hv]] at HST
        have hfa := hp.1
        have HPP : Hid (Ps w0 b t K (AccL w0 b d) R0 e w10) := hid (by rw [HST.out]; exact ⟨hp.1, H7.out.ow.trans hp.2⟩)
        unfold Faulted at hfa
        subst hfa
        generalize faultV t (a : Int) (er : Int) = fv at HPP ⊢
        clear hp hv
        go_wp2_with fail
        first | exact ⟨rfl, HPP.out⟩ | exact HPP.out | (simp only [bodyPost]; exact HPP.out)
      | ok T m q =>
        rw [hv] at hp
        rw [show stL d f s n ws = .ok (s ++ [T]) m q by unfold stL; rw [hv]] at HST
        obtain ⟨t1, t2, t3, t4, t5, t6, rfl, hka, hoc⟩ := kb_read H7.out hbw hbk hp
        have H11 := hid hka
        have zc12 := hid (fun j u hj => hoc.cell (zc8.out j u hj) (by rw [addr_block]; show ¬ W.heap.size = b; omega))
        have HEND := hid (HEND0.out T (.slice t1 t2 t3) (.slice t4 t5 t6) m q hv)
        clear hp hka hoc
        simp only [vv]
        go_wp2_with fail
        refine hKK.out _ _ ⟨H11.out.lj.cr, H11.out.lj.cd⟩ (fun _ => ?_)
        clear hKK KK
        try simp only [Act.put, List.setIfInBounds_toArray, List.set_cons_zero, List.set_cons_succ]
        have hsx := H11.out.ow.size
        have hbg := H11.out.lj.big
        refine step_h (i := 7) rfl (by kernel_rfl) ?_
        intro KK hKK
        refine step_append_lies _ (by rfl) _ _ _ (by rfl) (w0.heap.size + 3) 27 i0 (.agg #[.int .i64 0, .int .i64 0, .string ⟨#[]⟩, .slice none 0 0, .slice none 0 0]) 5 80 Tryz.underlying24 hi hz0 hz1 hz2 rfl (by decide) _ E.length _ (by rfl) H11.out.lj.own ⟨W.heap.size, 0, none⟩ 1 1 [.int .i64 0, .int .i64 0, .string ⟨#[]⟩, .slice none 0 0, .slice none 0 0] (by rfl) rfl zc12.out (by intro u hu; simp at hu; rcases hu with rfl | rfl | rfl | rfl | rfl <;> rfl) (by decide) (by unfold maxLen; omega) (by omega) (by omega) w10.heap.size rfl ?_
        intro g9 cap9 w9 hown9 hgr9 hat9 hlt9
        obtain ⟨y0, y1, hne9, r0, r1, r2, r3, r4, rf, x0, xf⟩ := ka_row H11.out hown9 hgr9 hat9
        have hS9 : w9.cell? ⟨w0.heap.size, 0, none⟩ = some (.pointer (some ⟨b, 0, none⟩)) ∧ w9.cell? ⟨w0.heap.size + 1, 0, none⟩ = some (.int .i64 (d : Int)) := ⟨y0, y1⟩
        refine hKK.out _ _ hS9 (fun _ => ?_)
        clear hKK KK
        try simp only [Act.put, List.setIfInBounds_toArray, List.set_cons_zero, List.set_cons_succ]
        refine take_h (i := 8) (v := ?_) rfl (by kernel_rfl) (by kernel_rfl) (by kernel_rfl) (fun _ _ _ h => h) (by rfl) ?_ hS9 ?_
        rotate_left
        · (intro X hX; obtain ⟨y0, y1⟩ := hX; go_simp; try with_reducible rfl)
        simp only [Act.put, List.setIfInBounds_toArray, List.set_cons_zero, List.set_cons_succ]
        have hnd := hid (HEND.out _ _ _ _ _ H11.out hown9 hgr9 hat9)
        refine step2_h (i := 9) (j := 10) rfl rfl (by kernel_rfl) ?_ ?_
        · intro KK hKK
          go_simp
          change KK _ (put5 w9 g9 (E.length * 5) (.int .i64 T.kd) (.int .i64 T.nm) (.string T.st) (.slice t1 t2 t3) (.slice t4 t5 t6))
          have q0 := (World.cell?_of_block (w := w9) (a := ⟨w0.heap.size, 0, none⟩) (put5_heap w9 g9 (E.length * 5) (.int .i64 T.kd) (.int .i64 T.nm) (.string T.st) (.slice t1 t2 t3) (.slice t4 t5 t6) w0.heap.size hne9.1)).trans y0
          have q1 := (World.cell?_of_block (w := w9) (a := ⟨w0.heap.size + 1, 0, none⟩) (put5_heap w9 g9 (E.length * 5) (.int .i64 T.kd) (.int .i64 T.nm) (.string T.st) (.slice t1 t2 t3) (.slice t4 t5 t6) (w0.heap.size + 1) hne9.2.1)).trans y1
          have q2 := (World.cell?_of_block (w := w9) (a := ⟨w0.heap.size + 4, 0, none⟩) (put5_heap w9 g9 (E.length * 5) (.int .i64 T.kd) (.int .i64 T.nm) (.string T.st) (.slice t1 t2 t3) (.slice t4 t5 t6) (w0.heap.size + 4) (fun e => hne9.2.2 e.symm))).trans x0
          have q3 := (World.frozen?_of_block (w := w9) (a := ⟨w0.heap.size + 4, 0, none⟩) (put5_heap w9 g9 (E.length * 5) (.int .i64 T.kd) (.int .i64 T.nm) (.string T.st) (.slice t1 t2 t3) (.slice t4 t5 t6) (w0.heap.size + 4) (fun e => hne9.2.2 e.symm))).trans (xf 0)
          have HFI : Hid (Mo w9 ((put5 w9 g9 (E.length * 5) (.int .i64 T.kd) (.int .i64 T.nm) (.string T.st) (.slice t1 t2 t3) (.slice t4 t5 t6)).setCell ⟨w0.heap.size + 4, 0, none⟩ (.slice (some ⟨g9, 0, none⟩) (E.length + 1) cap9)) g9 (w0.heap.size + 4) (E.length * 5) (.slice (some ⟨g9, 0, none⟩) (E.length + 1) cap9) (.int .i64 T.kd) (.int .i64 T.nm) (.string T.st) (.slice t1 t2 t3) (.slice t4 t5 t6)) := hid (mo_a hne9.2.2)
          have HS2 := hid (mo_two hne9 ⟨y0, y1⟩ HFI.out)
          have HPE := hid (hnd.out _ HFI.out)
          generalize (put5 w9 g9 (E.length * 5) (.int .i64 T.kd) (.int .i64 T.nm) (.string T.st) (.slice t1 t2 t3) (.slice t4 t5 t6)) = WA at q0 q1 q2 q3 HS2 HPE ⊢
          clear HFI r0 r1 r2 r3 r4 rf x0 xf y0 y1 hS9
          refine hKK.out _ _ ⟨q0, q1⟩ (fun hSA => ?_)
          clear hKK KK
          refine step_h (i := 10) rfl (by kernel_rfl) ?_
          intro KK hKK
          go_simp
          refine hKK.out _ _ HS2.out (fun _ => ?_)
          clear hKK KK
          refine wpAnyH_done (by kernel_rfl) ?_ _
          first | go_end0 | refine bodyPost_ret (results_none rfl _ _ _) rfl ?_
          rw [HST.out]; exact ⟨rfl, HPE.out⟩
        · intro KK hKK
          go_simp
          have q0 := (set_other w9 (w0.heap.size + 4) w0.heap.size 0 0 (.slice (some ⟨g9, 0, none⟩) (E.length + 1) cap9) (Or.inl (by omega))).trans y0
          have q1 := (set_other w9 (w0.heap.size + 4) (w0.heap.size + 1) 0 0 (.slice (some ⟨g9, 0, none⟩) (E.length + 1) cap9) (Or.inl (by omega))).trans y1
          have s0 := (set_other w9 (w0.heap.size + 4) g9 0 (E.length * 5) (.slice (some ⟨g9, 0, none⟩) (E.length + 1) cap9) (Or.inl (fun e => hne9.2.2 e.symm))).trans r0
          have s1 := (set_other w9 (w0.heap.size + 4) g9 0 (E.length * 5 + 1) (.slice (some ⟨g9, 0, none⟩) (E.length + 1) cap9) (Or.inl (fun e => hne9.2.2 e.symm))).trans r1
          have s2 := (set_other w9 (w0.heap.size + 4) g9 0 (E.length * 5 + 2) (.slice (some ⟨g9, 0, none⟩) (E.length + 1) cap9) (Or.inl (fun e => hne9.2.2 e.symm))).trans r2
          have s3 := (set_other w9 (w0.heap.size + 4) g9 0 (E.length * 5 + 3) (.slice (some ⟨g9, 0, none⟩) (E.length + 1) cap9) (Or.inl (fun e => hne9.2.2 e.symm))).trans r3
          have s4 := (set_other w9 (w0.heap.size + 4) g9 0 (E.length * 5 + 4) (.slice (some ⟨g9, 0, none⟩) (E.length + 1) cap9) (Or.inl (fun e => hne9.2.2 e.symm))).trans r4
          have sf : ∀ o, (w9.setCell ⟨w0.heap.size + 4, 0, none⟩ (.slice (some ⟨g9, 0, none⟩) (E.length + 1) cap9)).frozen? ⟨g9, o, none⟩ = false := fun o => (World.frozen?_of_block (w := w9) (a := ⟨g9, o, none⟩) (Below.heap_setCell _ _ _ _ hne9.2.2)).trans (rf o)
          have HFI : Hid (Mo w9 (put5 (w9.setCell ⟨w0.heap.size + 4, 0, none⟩ (.slice (some ⟨g9, 0, none⟩) (E.length + 1) cap9)) g9 (E.length * 5) (.int .i64 T.kd) (.int .i64 T.nm) (.string T.st) (.slice t1 t2 t3) (.slice t4 t5 t6)) g9 (w0.heap.size + 4) (E.length * 5) (.slice (some ⟨g9, 0, none⟩) (E.length + 1) cap9) (.int .i64 T.kd) (.int .i64 T.nm) (.string T.st) (.slice t1 t2 t3) (.slice t4 t5 t6)) := hid (mo_b hne9.2.2)
          have HS2 := hid (mo_two hne9 ⟨y0, y1⟩ HFI.out)
          have HPE := hid (hnd.out _ HFI.out)
          generalize (w9.setCell ⟨w0.heap.size + 4, 0, none⟩ (.slice (some ⟨g9, 0, none⟩) (E.length + 1) cap9)) = WA at q0 q1 s0 s1 s2 s3 s4 sf HS2 HPE ⊢
          clear HFI r0 r1 r2 r3 r4 rf x0 xf y0 y1 hS9
          refine hKK.out _ _ ⟨q0, q1⟩ (fun hSA => ?_)
          clear hKK KK
          refine step_h (i := 9) rfl (by kernel_rfl) ?_
          intro KK hKK
          go_simp
          change KK _ (put5 WA g9 (E.length * 5) (.int .i64 T.kd) (.int .i64 T.nm) (.string T.st) (.slice t1 t2 t3) (.slice t4 t5 t6))
          refine hKK.out _ _ HS2.out (fun _ => ?_)
          clear hKK KK
          refine wpAnyH_done (by kernel_rfl) ?_ _
          first | go_end0 | refine bodyPost_ret (results_none rfl _ _ _) rfl ?_
          rw [HST.out]; exact ⟨rfl, HPE.out⟩
  · intro KK hKK
    go_simp
    go_wp2_with fail
    go_at_call 41
    refine (HCV.out _ HKB.out.aj).mono ?_
    intro e w13 hp
    cases hv : jrV f (d + 1) n ws with
    | bad er a =>
      rw [hv] at hp
      rw [show stL d f s n ws = .bad er a by unfold stL; rw [hv]] at HST
      have hfa := hp.1
      have HPP : Hid (Ps w0 b t K (AccL w0 b d) R0 e w13) := hid (by rw [HST.out]; exact ⟨hp.1, HKB.out.ow.trans hp.2⟩)
      unfold Faulted at hfa
      subst hfa
      generalize faultV t (a : Int) (er : Int) = fv at HPP ⊢
      clear hp hv
      go_wp2_with fail
      first | exact ⟨rfl, HPP.out⟩ | exact HPP.out | (simp only [bodyPost]; exact HPP.out)
    | ok T m q =>
      rw [hv] at hp
      rw [show stL d f s n ws = .ok (s ++ [T]) m q by unfold stL; rw [hv]] at HST
      obtain ⟨t1, t2, t3, t4, t5, t6, rfl, hka, hoc⟩ := kb_read HKB.out hbw hbk hp
      have H14 := hid hka
      have HEND := hid (HEND0.out T (.slice t1 t2 t3) (.slice t4 t5 t6) m q hv)
      clear hp hka hoc
      simp only [vv]
      go_wp2_with fail
      refine hKK.out _ _ ⟨H14.out.lj.cr, H14.out.lj.cd⟩ (fun _ => ?_)
      clear hKK KK
      try simp only [Act.put, List.setIfInBounds_toArray, List.set_cons_zero, List.set_cons_succ]
      refine step2_h (i := 0) (j := 6) rfl rfl (by kernel_rfl) ?_ ?_
      · intro KK hKK
        have ci15 := H14.out.lj.ci
        go_simp
        refine hKK.out _ _ ⟨H14.out.lj.cr, H14.out.lj.cd⟩ (fun _ => ?_)
        clear hKK KK ci15
        try simp only [Act.put, List.setIfInBounds_toArray, List.set_cons_zero, List.set_cons_succ]
        refine take_h (i := 5) (v := ?_) rfl (by kernel_rfl) (by kernel_rfl) (by kernel_rfl) (fun _ _ _ h => h) (by rfl) ?_ ⟨H14.out.lj.cr, H14.out.lj.cd⟩ ?_
        rotate_left
        · (intro X hX; obtain ⟨y0, y1⟩ := hX; go_simp; try with_reducible rfl)
        simp only [Act.put, List.setIfInBounds_toArray, List.set_cons_zero, List.set_cons_succ]
        refine step_h (i := 6) rfl (by kernel_rfl) ?_
        intro KK hKK
        go_simp
        change KK _ (w13.alloc (.cells #[.int .i64 0, .int .i64 0, .string ⟨#[]⟩, .slice none 0 0, .slice none 0 0] 27))
        have H16 := hid (H14.out.on hbw (valloc_bel (Below.refl _ _) (.cells #[.int .i64 0, .int .i64 0, .string ⟨#[]⟩, .slice none 0 0, .slice none 0 0] 27)))
        have zc17 : Hid (∀ (j : Nat) (u : Value), ([.int .i64 0, .int .i64 0, .string ⟨#[]⟩, .slice none 0 0, .slice none 0 0] : List Value)[j]? = some u → (w13.alloc (.cells #[.int .i64 0, .int .i64 0, .string ⟨#[]⟩, .slice none 0 0, .slice none 0 0] 27)).cell? (Addr.add ⟨w13.heap.size, 0, none⟩ j) = some u) := hid (new_cells w13 [.int .i64 0, .int .i64 0, .string ⟨#[]⟩, .slice none 0 0, .slice none 0 0] 27)
        generalize (w13.alloc (.cells #[.int .i64 0, .int .i64 0, .string ⟨#[]⟩, .slice none 0 0, .slice none 0 0] 27)) = X18 at H16 zc17 ⊢
        refine hKK.out _ _ ⟨H16.out.lj.cr, H16.out.lj.cd⟩ (fun _ => ?_)
        clear hKK KK
        try simp only [Act.put, List.setIfInBounds_toArray, List.set_cons_zero, List.set_cons_succ]
        have hsx := H16.out.ow.size
        have hbg := H16.out.lj.big
        refine step_h (i := 7) rfl (by kernel_rfl) ?_
        intro KK hKK
        refine step_append_lies _ (by rfl) _ _ _ (by rfl) (w0.heap.size + 3) 27 i0 (.agg #[.int .i64 0, .int .i64 0, .string ⟨#[]⟩, .slice none 0 0, .slice none 0 0]) 5 80 Tryz.underlying24 hi hz0 hz1 hz2 rfl (by decide) _ E.length _ (by rfl) H16.out.lj.own ⟨w13.heap.size, 0, none⟩ 1 1 [.int .i64 0, .int .i64 0, .string ⟨#[]⟩, .slice none 0 0, .slice none 0 0] (by rfl) rfl zc17.out (by intro u hu; simp at hu; rcases hu with rfl | rfl | rfl | rfl | rfl <;> rfl) (by decide) (by unfold maxLen; omega) (by omega) (by omega) X18.heap.size rfl ?_
        intro g9 cap9 w9 hown9 hgr9 hat9 hlt9
        obtain ⟨y0, y1, hne9, r0, r1, r2, r3, r4, rf, x0, xf⟩ := ka_row H16.out hown9 hgr9 hat9
        have hS9 : w9.cell? ⟨w0.heap.size, 0, none⟩ = some (.pointer (some ⟨b, 0, none⟩)) ∧ w9.cell? ⟨w0.heap.size + 1, 0, none⟩ = some (.int .i64 (d : Int)) := ⟨y0, y1⟩
        refine hKK.out _ _ hS9 (fun _ => ?_)
        clear hKK KK
        try simp only [Act.put, List.setIfInBounds_toArray, List.set_cons_zero, List.set_cons_succ]
        refine take_h (i := 8) (v := ?_) rfl (by kernel_rfl) (by kernel_rfl) (by kernel_rfl) (fun _ _ _ h => h) (by rfl) ?_ hS9 ?_
        rotate_left
        · (intro X hX; obtain ⟨y0, y1⟩ := hX; go_simp; try with_reducible rfl)
        simp only [Act.put, List.setIfInBounds_toArray, List.set_cons_zero, List.set_cons_succ]
        have hnd := hid (HEND.out _ _ _ _ _ H16.out hown9 hgr9 hat9)
        refine step2_h (i := 9) (j := 10) rfl rfl (by kernel_rfl) ?_ ?_
        · intro KK hKK
          go_simp
          change KK _ (put5 w9 g9 (E.length * 5) (.int .i64 T.kd) (.int .i64 T.nm) (.string T.st) (.slice t1 t2 t3) (.slice t4 t5 t6))
          have q0 := (World.cell?_of_block (w := w9) (a := ⟨w0.heap.size, 0, none⟩) (put5_heap w9 g9 (E.length * 5) (.int .i64 T.kd) (.int .i64 T.nm) (.string T.st) (.slice t1 t2 t3) (.slice t4 t5 t6) w0.heap.size hne9.1)).trans y0
          have q1 := (World.cell?_of_block (w := w9) (a := ⟨w0.heap.size + 1, 0, none⟩) (put5_heap w9 g9 (E.length * 5) (.int .i64 T.kd) (.int .i64 T.nm) (.string T.st) (.slice t1 t2 t3) (.slice t4 t5 t6) (w0.heap.size + 1) hne9.2.1)).trans y1
          have q2 := (World.cell?_of_block (w := w9) (a := ⟨w0.heap.size + 4, 0, none⟩) (put5_heap w9 g9 (E.length * 5) (.int .i64 T.kd) (.int .i64 T.nm) (.string T.st) (.slice t1 t2 t3) (.slice t4 t5 t6) (w0.heap.size + 4) (fun e => hne9.2.2 e.symm))).trans x0
          have q3 := (World.frozen?_of_block (w := w9) (a := ⟨w0.heap.size + 4, 0, none⟩) (put5_heap w9 g9 (E.length * 5) (.int .i64 T.kd) (.int .i64 T.nm) (.string T.st) (.slice t1 t2 t3) (.slice t4 t5 t6) (w0.heap.size + 4) (fun e => hne9.2.2 e.symm))).trans (xf 0)
          have HFI : Hid (Mo w9 ((put5 w9 g9 (E.length * 5) (.int .i64 T.kd) (.int .i64 T.nm) (.string T.st) (.slice t1 t2 t3) (.slice t4 t5 t6)).setCell ⟨w0.heap.size + 4, 0, none⟩ (.slice (some ⟨g9, 0, none⟩) (E.length + 1) cap9)) g9 (w0.heap.size + 4) (E.length * 5) (.slice (some ⟨g9, 0, none⟩) (E.length + 1) cap9) (.int .i64 T.kd) (.int .i64 T.nm) (.string T.st) (.slice t1 t2 t3) (.slice t4 t5 t6)) := hid (mo_a hne9.2.2)
          have HS2 := hid (mo_two hne9 ⟨y0, y1⟩ HFI.out)
          have HPE := hid (hnd.out _ HFI.out)
          generalize (put5 w9 g9 (E.length * 5) (.int .i64 T.kd) (.int .i64 T.nm) (.string T.st) (.slice t1 t2 t3) (.slice t4 t5 t6)) = WA at q0 q1 q2 q3 HS2 HPE ⊢
          clear HFI r0 r1 r2 r3 r4 rf x0 xf y0 y1 hS9
          refine hKK.out _ _ ⟨q0, q1⟩ (fun hSA => ?_)
          clear hKK KK
          refine step_h (i := 10) rfl (by kernel_rfl) ?_
          intro KK hKK
          go_simp
          refine hKK.out _ _ HS2.out (fun _ => ?_)
          clear hKK KK
          refine wpAnyH_done (by kernel_rfl) ?_ _
          first | go_end0 | refine bodyPost_ret (results_none rfl _ _ _) rfl ?_
          rw [HST.out]; exact ⟨rfl, HPE.out⟩
        · intro KK hKK
          go_simp
          have q0 := (set_other w9 (w0.heap.size + 4) w0.heap.size 0 0 (.slice (some ⟨g9, 0, none⟩) (E.length + 1) cap9) (Or.inl (by omega))).trans y0
          have q1 := (set_other w9 (w0.heap.size + 4) (w0.heap.size + 1) 0 0 (.slice (some ⟨g9, 0, none⟩) (E.length + 1) cap9) (Or.inl (by omega))).trans y1
          have s0 := (set_other w9 (w0.heap.size + 4) g9 0 (E.length * 5) (.slice (some ⟨g9, 0, none⟩) (E.length + 1) cap9) (Or.inl (fun e => hne9.2.2 e.symm))).trans r0
          have s1 := (set_other w9 (w0.heap.size + 4) g9 0 (E.length * 5 + 1) (.slice (some ⟨g9, 0, none⟩) (E.length + 1) cap9) (Or.inl (fun e => hne9.2.2 e.symm))).trans r1
          have s2 := (set_other w9 (w0.heap.size + 4) g9 0 (E.length * 5 + 2) (.slice (some ⟨g9, 0, none⟩) (E.length + 1) cap9) (Or.inl (fun e => hne9.2.2 e.symm))).trans r2
          have s3 := (set_other w9 (w0.heap.size + 4) g9 0 (E.length * 5 + 3) (.slice (some ⟨g9, 0, none⟩) (E.length + 1) cap9) (Or.inl (fun e => hne9.2.2 e.symm))).trans r3
          have s4 := (set_other w9 (w0.heap.size + 4) g9 0 (E.length * 5 + 4) (.slice (some ⟨g9, 0, none⟩) (E.length + 1) cap9) (Or.inl (fun e => hne9.2.2 e.symm))).trans r4
          have sf : ∀ o, (w9.setCell ⟨w0.heap.size + 4, 0, none⟩ (.slice (some ⟨g9, 0, none⟩) (E.length + 1) cap9)).frozen? ⟨g9, o, none⟩ = false := fun o => (World.frozen?_of_block (w := w9) (a := ⟨g9, o, none⟩) (Below.heap_setCell _ _ _ _ hne9.2.2)).trans (rf o)
          have HFI : Hid (Mo w9 (put5 (w9.setCell ⟨w0.heap.size + 4, 0, none⟩ (.slice (some ⟨g9, 0, none⟩) (E.length + 1) cap9)) g9 (E.length * 5) (.int .i64 T.kd) (.int .i64 T.nm) (.string T.st) (.slice t1 t2 t3) (.slice t4 t5 t6)) g9 (w0.heap.size + 4) (E.length * 5) (.slice (some ⟨g9, 0, none⟩) (E.length + 1) cap9) (.int .i64 T.kd) (.int .i64 T.nm) (.string T.st) (.slice t1 t2 t3) (.slice t4 t5 t6)) := hid (mo_b hne9.2.2)
          have HS2 := hid (mo_two hne9 ⟨y0, y1⟩ HFI.out)
          have HPE := hid (hnd.out _ HFI.out)
          generalize (w9.setCell ⟨w0.heap.size + 4, 0, none⟩ (.slice (some ⟨g9, 0, none⟩) (E.length + 1) cap9)) = WA at q0 q1 s0 s1 s2 s3 s4 sf HS2 HPE ⊢
          clear HFI r0 r1 r2 r3 r4 rf x0 xf y0 y1 hS9
          refine hKK.out _ _ ⟨q0, q1⟩ (fun hSA => ?_)
          clear hKK KK
          refine step_h (i := 9) rfl (by kernel_rfl) ?_
          intro KK hKK
          go_simp
          change KK _ (put5 WA g9 (E.length * 5) (.int .i64 T.kd) (.int .i64 T.nm) (.string T.st) (.slice t1 t2 t3) (.slice t4 t5 t6))
          refine hKK.out _ _ HS2.out (fun _ => ?_)
          clear hKK KK
          refine wpAnyH_done (by kernel_rfl) ?_ _
          first | go_end0 | refine bodyPost_ret (results_none rfl _ _ _) rfl ?_
          rw [HST.out]; exact ⟨rfl, HPE.out⟩
      · intro KK hKK
        go_simp
        change KK _ (w13.alloc (.cells #[.int .i64 0, .int .i64 0, .string ⟨#[]⟩, .slice none 0 0, .slice none 0 0] 27))
        have H19 := hid (H14.out.on hbw (valloc_bel (Below.refl _ _) (.cells #[.int .i64 0, .int .i64 0, .string ⟨#[]⟩, .slice none 0 0, .slice none 0 0] 27)))
        have zc20 : Hid (∀ (j : Nat) (u : Value), ([.int .i64 0, .int .i64 0, .string ⟨#[]⟩, .slice none 0 0, .slice none 0 0] : List Value)[j]? = some u → (w13.alloc (.cells #[.int .i64 0, .int .i64 0, .string ⟨#[]⟩, .slice none 0 0, .slice none 0 0] 27)).cell? (Addr.add ⟨w13.heap.size, 0, none⟩ j) = some u) := hid (new_cells w13 [.int .i64 0, .int .i64 0, .string ⟨#[]⟩, .slice none 0 0, .slice none 0 0] 27)
        generalize (w13.alloc (.cells #[.int .i64 0, .int .i64 0, .string ⟨#[]⟩, .slice none 0 0, .slice none 0 0] 27)) = X21 at H19 zc20 ⊢
        refine hKK.out _ _ ⟨H19.out.lj.cr, H19.out.lj.cd⟩ (fun _ => ?_)
        clear hKK KK
        try simp only [Act.put, List.setIfInBounds_toArray, List.set_cons_zero, List.set_cons_succ]
        refine step_h (i := 0) rfl (by kernel_rfl) ?_
        intro KK hKK
        have ci22 := H19.out.lj.ci
        go_simp
        refine hKK.out _ _ ⟨H19.out.lj.cr, H19.out.lj.cd⟩ (fun _ => ?_)
        clear hKK KK ci22
        try simp only [Act.put, List.setIfInBounds_toArray, List.set_cons_zero, List.set_cons_succ]
        refine take_h (i := 5) (v := ?_) rfl (by kernel_rfl) (by kernel_rfl) (by kernel_rfl) (fun _ _ _ h => h) (by rfl) ?_ ⟨H19.out.lj.cr, H19.out.lj.cd⟩ ?_
        rotate_left
        · (intro X hX; obtain ⟨y0, y1⟩ := hX; go_simp; try with_reducible rfl)
        simp only [Act.put, List.setIfInBounds_toArray, List.set_cons_zero, List.set_cons_succ]
        have hsx := H19.out.ow.size
        have hbg := H19.out.lj.big
        refine step_h (i := 7) rfl (by kernel_rfl) ?_
        intro KK hKK
        refine step_append_lies _ (by rfl) _ _ _ (by rfl) (w0.heap.size + 3) 27 i0 (.agg #[.int .i64 0, .int .i64 0, .string ⟨#[]⟩, .slice none 0 0, .slice none 0 0]) 5 80 Tryz.underlying24 hi hz0 hz1 hz2 rfl (by decide) _ E.length _ (by rfl) H19.out.lj.own ⟨w13.heap.size, 0, none⟩ 1 1 [.int .i64 0, .int .i64 0, .string ⟨#[]⟩, .slice none 0 0, .slice none 0 0] (by rfl) rfl zc20.out (by intro u hu; simp at hu; rcases hu with rfl | rfl | rfl | rfl | rfl <;> rfl) (by decide) (by unfold maxLen; omega) (by omega) (by omega) X21.heap.size rfl ?_
        intro g9 cap9 w9 hown9 hgr9 hat9 hlt9
        obtain ⟨y0, y1, hne9, r0, r1, r2, r3, r4, rf, x0, xf⟩ := ka_row H19.out hown9 hgr9 hat9
        have hS9 : w9.cell? ⟨w0.heap.size, 0, none⟩ = some (.pointer (some ⟨b, 0, none⟩)) ∧ w9.cell? ⟨w0.heap.size + 1, 0, none⟩ = some (.int .i64 (d : Int)) := ⟨y0, y1⟩
        refine hKK.out _ _ hS9 (fun _ => ?_)
        clear hKK KK
        try simp only [Act.put, List.setIfInBounds_toArray, List.set_cons_zero, List.set_cons_succ]
        refine take_h (i := 8) (v := ?_) rfl (by kernel_rfl) (by kernel_rfl) (by kernel_rfl) (fun _ _ _ h => h) (by rfl) ?_ hS9 ?_
        rotate_left
        · (intro X hX; obtain ⟨y0, y1⟩ := hX; go_simp; try with_reducible rfl)
        simp only [Act.put, List.setIfInBounds_toArray, List.set_cons_zero, List.set_cons_succ]
        have hnd := hid (HEND.out _ _ _ _ _ H19.out hown9 hgr9 hat9)
        refine step2_h (i := 9) (j := 10) rfl rfl (by kernel_rfl) ?_ ?_
        · intro KK hKK
          go_simp
          change KK _ (put5 w9 g9 (E.length * 5) (.int .i64 T.kd) (.int .i64 T.nm) (.string T.st) (.slice t1 t2 t3) (.slice t4 t5 t6))
          have q0 := (World.cell?_of_block (w := w9) (a := ⟨w0.heap.size, 0, none⟩) (put5_heap w9 g9 (E.length * 5) (.int .i64 T.kd) (.int .i64 T.nm) (.string T.st) (.slice t1 t2 t3) (.slice t4 t5 t6) w0.heap.size hne9.1)).trans y0
          have q1 := (World.cell?_of_block (w := w9) (a := ⟨w0.heap.size + 1, 0, none⟩) (put5_heap w9 g9 (E.length * 5) (.int .i64 T.kd) (.int .i64 T.nm) (.string T.st) (.slice t1 t2 t3) (.slice t4 t5 t6) (w0.heap.size + 1) hne9.2.1)).trans y1
          have q2 := (World.cell?_of_block (w := w9) (a := ⟨w0.heap.size + 4, 0, none⟩) (put5_heap w9 g9 (E.length * 5) (.int .i64 T.kd) (.int .i64 T.nm) (.string T.st) (.slice t1 t2 t3) (.slice t4 t5 t6) (w0.heap.size + 4) (fun e => hne9.2.2 e.symm))).trans x0
          have q3 := (World.frozen?_of_block (w := w9) (a := ⟨w0.heap.size + 4, 0, none⟩) (put5_heap w9 g9 (E.length * 5) (.int .i64 T.kd) (.int .i64 T.nm) (.string T.st) (.slice t1 t2 t3) (.slice t4 t5 t6) (w0.heap.size + 4) (fun e => hne9.2.2 e.symm))).trans (xf 0)
          have HFI : Hid (Mo w9 ((put5 w9 g9 (E.length * 5) (.int .i64 T.kd) (.int .i64 T.nm) (.string T.st) (.slice t1 t2 t3) (.slice t4 t5 t6)).setCell ⟨w0.heap.size + 4, 0, none⟩ (.slice (some ⟨g9, 0, none⟩) (E.length + 1) cap9)) g9 (w0.heap.size + 4) (E.length * 5) (.slice (some ⟨g9, 0, none⟩) (E.length + 1) cap9) (.int .i64 T.kd) (.int .i64 T.nm) (.string T.st) (.slice t1 t2 t3) (.slice t4 t5 t6)) := hid (mo_a hne9.2.2)
          have HS2 := hid (mo_two hne9 ⟨y0, y1⟩ HFI.out)
          have HPE := hid (hnd.out _ HFI.out)
          generalize (put5 w9 g9 (E.length * 5) (.int .i64 T.kd) (.int .i64 T.nm) (.string T.st) (.slice t1 t2 t3) (.slice t4 t5 t6)) = WA at q0 q1 q2 q3 HS2 HPE ⊢
          clear HFI r0 r1 r2 r3 r4 rf x0 xf y0 y1 hS9
          refine hKK.out _ _ ⟨q0, q1⟩ (fun hSA => ?_)
          clear hKK KK
          refine step_h (i := 10) rfl (by kernel_rfl) ?_
          intro KK hKK
          go_simp
          refine hKK.out _ _ HS2.out (fun _ => ?_)
          clear hKK KK
          refine wpAnyH_done (by kernel_rfl) ?_ _
          first | go_end0 | refine bodyPost_ret (results_none rfl _ _ _) rfl ?_
          rw [HST.out]; exact ⟨rfl, HPE.out⟩
        · intro KK hKK
          go_simp
          have q0 := (set_other w9 (w0.heap.size + 4) w0.heap.size 0 0 (.slice (some ⟨g9, 0, none⟩) (E.length + 1) cap9) (Or.inl (by omega))).trans y0
          have q1 := (set_other w9 (w0.heap.size + 4) (w0.heap.size + 1) 0 0 (.slice (some ⟨g9, 0, none⟩) (E.length + 1) cap9) (Or.inl (by omega))).trans y1
          have s0 := (set_other w9 (w0.heap.size + 4) g9 0 (E.length * 5) (.slice (some ⟨g9, 0, none⟩) (E.length + 1) cap9) (Or.inl (fun e => hne9.2.2 e.symm))).trans r0
          have s1 := (set_other w9 (w0.heap.size + 4) g9 0 (E.length * 5 + 1) (.slice (some ⟨g9, 0, none⟩) (E.length + 1) cap9) (Or.inl (fun e => hne9.2.2 e.symm))).trans r1
          have s2 := (set_other w9 (w0.heap.size + 4) g9 0 (E.length * 5 + 2) (.slice (some ⟨g9, 0, none⟩) (E.length + 1) cap9) (Or.inl (fun e => hne9.2.2 e.symm))).trans r2
          have s3 := (set_other w9 (w0.heap.size + 4) g9 0 (E.length * 5 + 3) (.slice (some ⟨g9, 0, none⟩) (E.length + 1) cap9) (Or.inl (fun e => hne9.2.2 e.symm))).trans r3
          have s4 := (set_other w9 (w0.heap.size + 4) g9 0 (E.length * 5 + 4) (.slice (some ⟨g9, 0, none⟩) (E.length + 1) cap9) (Or.inl (fun e => hne9.2.2 e.symm))).trans r4
          have sf : ∀ o, (w9.setCell ⟨w0.heap.size + 4, 0, none⟩ (.slice (some ⟨g9, 0, none⟩) (E.length + 1) cap9)).frozen? ⟨g9, o, none⟩ = false := fun o => (World.frozen?_of_block (w := w9) (a := ⟨g9, o, none⟩) (Below.heap_setCell _ _ _ _ hne9.2.2)).trans (rf o)
          have HFI : Hid (Mo w9 (put5 (w9.setCell ⟨w0.heap.size + 4, 0, none⟩ (.slice (some ⟨g9, 0, none⟩) (E.length + 1) cap9)) g9 (E.length * 5) (.int .i64 T.kd) (.int .i64 T.nm) (.string T.st) (.slice t1 t2 t3) (.slice t4 t5 t6)) g9 (w0.heap.size + 4) (E.length * 5) (.slice (some ⟨g9, 0, none⟩) (E.length + 1) cap9) (.int .i64 T.kd) (.int .i64 T.nm) (.string T.st) (.slice t1 t2 t3) (.slice t4 t5 t6)) := hid (mo_b hne9.2.2)
          have HS2 := hid (mo_two hne9 ⟨y0, y1⟩ HFI.out)
          have HPE := hid (hnd.out _ HFI.out)
          generalize (w9.setCell ⟨w0.heap.size + 4, 0, none⟩ (.slice (some ⟨g9, 0, none⟩) (E.length + 1) cap9)) = WA at q0 q1 s0 s1 s2 s3 s4 sf HS2 HPE ⊢
          clear HFI r0 r1 r2 r3 r4 rf x0 xf y0 y1 hS9
          refine hKK.out _ _ ⟨q0, q1⟩ (fun hSA => ?_)
          clear hKK KK
          refine step_h (i := 9) rfl (by kernel_rfl) ?_
          intro KK hKK
          go_simp
          change KK _ (put5 WA g9 (E.length * 5) (.int .i64 T.kd) (.int .i64 T.nm) (.string T.st) (.slice t1 t2 t3) (.slice t4 t5 t6))
          refine hKK.out _ _ HS2.out (fun _ => ?_)
          clear hKK KK
          refine wpAnyH_done (by kernel_rfl) ?_ _
          first | go_end0 | refine bodyPost_ret (results_none rfl _ _ _) rfl ?_
          rw [HST.out]; exact ⟨rfl, HPE.out⟩
  · intro KK hKK
    go_simp
    change KK _ (W.drew.alloc (.cells #[.int .i64 0, .int .i64 0, .string ⟨#[]⟩, .slice none 0 0, .slice none 0 0] 27))
    have H23 := hid (HKB.out.on hbw (valloc_bel (Below.refl _ _) (.cells #[.int .i64 0, .int .i64 0, .string ⟨#[]⟩, .slice none 0 0, .slice none 0 0] 27)))
    have zc24 : Hid (∀ (j : Nat) (u : Value), ([.int .i64 0, .int .i64 0, .string ⟨#[]⟩, .slice none 0 0, .slice none 0 0] : List Value)[j]? = some u → (W.drew.alloc (.cells #[.int .i64 0, .int .i64 0, .string ⟨#[]⟩, .slice none 0 0, .slice none 0 0] 27)).cell? (Addr.add ⟨W.heap.size, 0, none⟩ j) = some u) := hid (new_cells W.drew [.int .i64 0, .int .i64 0, .string ⟨#[]⟩, .slice none 0 0, .slice none 0 0] 27)
    generalize (W.drew.alloc (.cells #[.int .i64 0, .int .i64 0, .string ⟨#[]⟩, .slice none 0 0, .slice none 0 0] 27)) = X25 at H23 zc24 ⊢
    refine hKK.out _ _ ⟨H23.out.lj.cr, H23.out.lj.cd⟩ (fun _ => ?_)
    clear hKK KK
    try simp only [Act.put, List.setIfInBounds_toArray, List.set_cons_zero, List.set_cons_succ]
    refine step2_h (i := 0) (j := 4) rfl rfl (by kernel_rfl) ?_ ?_
    · intro KK hKK
      have ci26 := H23.out.lj.ci
      go_simp
      refine hKK.out _ _ ⟨H23.out.lj.cr, H23.out.lj.cd⟩ (fun _ => ?_)
      clear hKK KK ci26
      try simp only [Act.put, List.setIfInBounds_toArray, List.set_cons_zero, List.set_cons_succ]
      refine take_h (i := 5) (v := ?_) rfl (by kernel_rfl) (by kernel_rfl) (by kernel_rfl) (fun _ _ _ h => h) (by rfl) ?_ ⟨H23.out.lj.cr, H23.out.lj.cd⟩ ?_
      rotate_left
      · (intro X hX; obtain ⟨y0, y1⟩ := hX; go_simp; try with_reducible rfl)
      simp only [Act.put, List.setIfInBounds_toArray, List.set_cons_zero, List.set_cons_succ]
      refine step_h (i := 4) rfl (by kernel_rfl) ?_
      intro KK hKK
      go_simp
      go_wp2_with fail
      go_at_call 41
      refine (HCV.out _ H23.out.aj).mono ?_
      intro e w27 hp
      cases hv : jrV f (d + 1) n ws with
      | bad er a =>
        rw [hv] at hp
        rw [show stL d f s n ws = .bad er a by unfold stL; rw [hv]] at HST
        have hfa := hp.1
        have HPP : Hid (Ps w0 b t K (AccL w0 b d) R0 e w27) := hid (by rw [HST.out]; exact ⟨hp.1, H23.out.ow.trans hp.2⟩)
        unfold Faulted at hfa
        subst hfa
        generalize faultV t (a : Int) (er : Int) = fv at HPP ⊢
        clear hp hv
        go_wp2_with fail
        first | exact ⟨rfl, HPP.out⟩ | exact HPP.out | (simp only [bodyPost]; exact HPP.out)
      | ok T m q =>
        rw [hv] at hp
        rw [show stL d f s n ws = .ok (s ++ [T]) m q by unfold stL; rw [hv]] at HST
        obtain ⟨t1, t2, t3, t4, t5, t6, rfl, hka, hoc⟩ := kb_read H23.out hbw hbk hp
        have H28 := hid hka
        have zc29 := hid (fun j u hj => hoc.cell (zc24.out j u hj) (by rw [addr_block]; show ¬ W.heap.size = b; omega))
        have HEND := hid (HEND0.out T (.slice t1 t2 t3) (.slice t4 t5 t6) m q hv)
        clear hp hka hoc
        simp only [vv]
        go_wp2_with fail
        refine hKK.out _ _ ⟨H28.out.lj.cr, H28.out.lj.cd⟩ (fun _ => ?_)
        clear hKK KK
        try simp only [Act.put, List.setIfInBounds_toArray, List.set_cons_zero, List.set_cons_succ]
        have hsx := H28.out.ow.size
        have hbg := H28.out.lj.big
        refine step_h (i := 7) rfl (by kernel_rfl) ?_
        intro KK hKK
        refine step_append_lies _ (by rfl) _ _ _ (by rfl) (w0.heap.size + 3) 27 i0 (.agg #[.int .i64 0, .int .i64 0, .string ⟨#[]⟩, .slice none 0 0, .slice none 0 0]) 5 80 Tryz.underlying24 hi hz0 hz1 hz2 rfl (by decide) _ E.length _ (by rfl) H28.out.lj.own ⟨W.heap.size, 0, none⟩ 1 1 [.int .i64 0, .int .i64 0, .string ⟨#[]⟩, .slice none 0 0, .slice none 0 0] (by rfl) rfl zc29.out (by intro u hu; simp at hu; rcases hu with rfl | rfl | rfl | rfl | rfl <;> rfl) (by decide) (by unfold maxLen; omega) (by omega) (by omega) w27.heap.size rfl ?_
        intro g9 cap9 w9 hown9 hgr9 hat9 hlt9
        obtain ⟨y0, y1, hne9, r0, r1, r2, r3, r4, rf, x0, xf⟩ := ka_row H28.out hown9 hgr9 hat9
        have hS9 : w9.cell? ⟨w0.heap.size, 0, none⟩ = some (.pointer (some ⟨b, 0, none⟩)) ∧ w9.cell? ⟨w0.heap.size + 1, 0, none⟩ = some (.int .i64 (d : Int)) := ⟨y0, y1⟩
        refine hKK.out _ _ hS9 (fun _ => ?_)
        clear hKK KK
        try simp only [Act.put, List.setIfInBounds_toArray, List.set_cons_zero, List.set_cons_succ]
        refine take_h (i := 8) (v := ?_) rfl (by kernel_rfl) (by kernel_rfl) (by kernel_rfl) (fun _ _ _ h => h) (by rfl) ?_ hS9 ?_
        rotate_left
        · (intro X hX; obtain ⟨y0, y1⟩ := hX; go_simp; try with_reducible rfl)
        simp only [Act.put, List.setIfInBounds_toArray, List.set_cons_zero, List.set_cons_succ]
        have hnd := hid (HEND.out _ _ _ _ _ H28.out hown9 hgr9 hat9)
        refine step2_h (i := 9) (j := 10) rfl rfl (by kernel_rfl) ?_ ?_
        · intro KK hKK
          go_simp
          change KK _ (put5 w9 g9 (E.length * 5) (.int .i64 T.kd) (.int .i64 T.nm) (.string T.st) (.slice t1 t2 t3) (.slice t4 t5 t6))
          have q0 := (World.cell?_of_block (w := w9) (a := ⟨w0.heap.size, 0, none⟩) (put5_heap w9 g9 (E.length * 5) (.int .i64 T.kd) (.int .i64 T.nm) (.string T.st) (.slice t1 t2 t3) (.slice t4 t5 t6) w0.heap.size hne9.1)).trans y0
          have q1 := (World.cell?_of_block (w := w9) (a := ⟨w0.heap.size + 1, 0, none⟩) (put5_heap w9 g9 (E.length * 5) (.int .i64 T.kd) (.int .i64 T.nm) (.string T.st) (.slice t1 t2 t3) (.slice t4 t5 t6) (w0.heap.size + 1) hne9.2.1)).trans y1
          have q2 := (World.cell?_of_block (w := w9) (a := ⟨w0.heap.size + 4, 0, none⟩) (put5_heap w9 g9 (E.length * 5) (.int .i64 T.kd) (.int .i64 T.nm) (.string T.st) (.slice t1 t2 t3) (.slice t4 t5 t6) (w0.heap.size + 4) (fun e => hne9.2.2 e.symm))).trans x0
          have q3 := (World.frozen?_of_block (w := w9) (a := ⟨w0.heap.size + 4, 0, none⟩) (put5_heap w9 g9 (E.length * 5) (.int .i64 T.kd) (.int .i64 T.nm) (.string T.st) (.slice t1 t2 t3) (.slice t4 t5 t6) (w0.heap.size + 4) (fun e => hne9.2.2 e.symm))).trans (xf 0)
          have HFI : Hid (Mo w9 ((put5 w9 g9 (E.length * 5) (.int .i64 T.kd) (.int .i64 T.nm) (.string T.st) (.slice t1 t2 t3) (.slice t4 t5 t6)).setCell ⟨w0.heap.size + 4, 0, none⟩ (.slice (some ⟨g9, 0, none⟩) (E.length + 1) cap9)) g9 (w0.heap.size + 4) (E.length * 5) (.slice (some ⟨g9, 0, none⟩) (E.length + 1) cap9) (.int .i64 T.kd) (.int .i64 T.nm) (.string T.st) (.slice t1 t2 t3) (.slice t4 t5 t6)) := hid (mo_a hne9.2.2)
          have HS2 := hid (mo_two hne9 ⟨y0, y1⟩ HFI.out)
          have HPE := hid (hnd.out _ HFI.out)
          generalize (put5 w9 g9 (E.length * 5) (.int .i64 T.kd) (.int .i64 T.nm) (.string T.st) (.slice t1 t2 t3) (.slice t4 t5 t6)) = WA at q0 q1 q2 q3 HS2 HPE ⊢
          clear HFI r0 r1 r2 r3 r4 rf x0 xf y0 y1 hS9
          refine hKK.out _ _ ⟨q0, q1⟩ (fun hSA => ?_)
          clear hKK KK
          refine step_h (i := 10) rfl (by kernel_rfl) ?_
          intro KK hKK
          go_simp
          refine hKK.out _ _ HS2.out (fun _ => ?_)
          clear hKK KK
          refine wpAnyH_done (by kernel_rfl) ?_ _
          first | go_end0 | refine bodyPost_ret (results_none rfl _ _ _) rfl ?_
          rw [HST.out]; exact ⟨rfl, HPE.out⟩
        · intro KK hKK
          go_simp
          have q0 := (set_other w9 (w0.heap.size + 4) w0.heap.size 0 0 (.slice (some ⟨g9, 0, none⟩) (E.length + 1) cap9) (Or.inl (by omega))).trans y0
          have q1 := (set_other w9 (w0.heap.size + 4) (w0.heap.size + 1) 0 0 (.slice (some ⟨g9, 0, none⟩) (E.length + 1) cap9) (Or.inl (by omega))).trans y1
          have s0 := (set_other w9 (w0.heap.size + 4) g9 0 (E.length * 5) (.slice (some ⟨g9, 0, none⟩) (E.length + 1) cap9) (Or.inl (fun e => hne9.2.2 e.symm))).trans r0
          have s1 := (set_other w9 (w0.heap.size + 4) g9 0 (E.length * 5 + 1) (.slice (some ⟨g9, 0, none⟩) (E.length + 1) cap9) (Or.inl (fun e => hne9.2.2 e.symm))).trans r1
          have s2 := (set_other w9 (w0.heap.size + 4) g9 0 (E.length * 5 + 2) (.slice (some ⟨g9, 0, none⟩) (E.length + 1) cap9) (Or.inl (fun e => hne9.2.2 e.symm))).trans r2
          have s3 := (set_other w9 (w0.heap.size + 4) g9 0 (E.length * 5 + 3) (.slice (some ⟨g9, 0, none⟩) (E.length + 1) cap9) (Or.inl (fun e => hne9.2.2 e.symm))).trans r3
          have s4 := (set_other w9 (w0.heap.size + 4) g9 0 (E.length * 5 + 4) (.slice (some ⟨g9, 0, none⟩) (E.length + 1) cap9) (Or.inl (fun e => hne9.2.2 e.symm))).trans r4
          have sf : ∀ o, (w9.setCell ⟨w0.heap.size + 4, 0, none⟩ (.slice (some ⟨g9, 0, none⟩) (E.length + 1) cap9)).frozen? ⟨g9, o, none⟩ = false := fun o => (World.frozen?_of_block (w := w9) (a := ⟨g9, o, none⟩) (Below.heap_setCell _ _ _ _ hne9.2.2)).trans (rf o)
          have HFI : Hid (Mo w9 (put5 (w9.setCell ⟨w0.heap.size + 4, 0, none⟩ (.slice (some ⟨g9, 0, none⟩) (E.length + 1) cap9)) g9 (E.length * 5) (.int .i64 T.kd) (.int .i64 T.nm) (.string T.st) (.slice t1 t2 t3) (.slice t4 t5 t6)) g9 (w0.heap.size + 4) (E.length * 5) (.slice (some ⟨g9, 0, none⟩) (E.length + 1) cap9) (.int .i64 T.kd) (.int .i64 T.nm) (.string T.st) (.slice t1 t2 t3) (.slice t4 t5 t6)) := hid (mo_b hne9.2.2)
          have HS2 := hid (mo_two hne9 ⟨y0, y1⟩ HFI.out)
          have HPE := hid (hnd.out _ HFI.out)
          generalize (w9.setCell ⟨w0.heap.size + 4, 0, none⟩ (.slice (some ⟨g9, 0, none⟩) (E.length + 1) cap9)) = WA at q0 q1 s0 s1 s2 s3 s4 sf HS2 HPE ⊢
          clear HFI r0 r1 r2 r3 r4 rf x0 xf y0 y1 hS9
          refine hKK.out _ _ ⟨q0, q1⟩ (fun hSA => ?_)
          clear hKK KK
          refine step_h (i := 9) rfl (by kernel_rfl) ?_
          intro KK hKK
          go_simp
          change KK _ (put5 WA g9 (E.length * 5) (.int .i64 T.kd) (.int .i64 T.nm) (.string T.st) (.slice t1 t2 t3) (.slice t4 t5 t6))
          refine hKK.out _ _ HS2.out (fun _ => ?_)
          clear hKK KK
          refine wpAnyH_done (by kernel_rfl) ?_ _
          first | go_end0 | refine bodyPost_ret (results_none rfl _ _ _) rfl ?_
          rw [HST.out]; exact ⟨rfl, HPE.out⟩
    · intro KK hKK
      go_simp
      go_wp2_with fail
      go_at_call 41
      refine (HCV.out _ H23.out.aj).mono ?_
      intro e w30 hp
      cases hv : jrV f (d + 1) n ws with
      | bad er a =>
        rw [hv] at hp
        rw [show stL d f s n ws = .bad er a by unfold stL; rw [hv]] at HST
        have hfa := hp.1
        have HPP : Hid (Ps w0 b t K (AccL w0 b d) R0 e w30) := hid (by rw [HST.out]; exact ⟨hp.1, H23.out.ow.trans hp.2⟩)
        unfold Faulted at hfa
        subst hfa
        generalize faultV t (a : Int) (er : Int) = fv at HPP ⊢
        clear hp hv
        go_wp2_with fail
        first | exact ⟨rfl, HPP.out⟩ | exact HPP.out | (simp only [bodyPost]; exact HPP.out)
      | ok T m q =>
        rw [hv] at hp
        rw [show stL d f s n ws = .ok (s ++ [T]) m q by unfold stL; rw [hv]] at HST
        obtain ⟨t1, t2, t3, t4, t5, t6, rfl, hka, hoc⟩ := kb_read H23.out hbw hbk hp
        have H31 := hid hka
        have zc32 := hid (fun j u hj => hoc.cell (zc24.out j u hj) (by rw [addr_block]; show ¬ W.heap.size = b; omega))
        have HEND := hid (HEND0.out T (.slice t1 t2 t3) (.slice t4 t5 t6) m q hv)
        clear hp hka hoc
        simp only [vv]
        go_wp2_with fail
        refine hKK.out _ _ ⟨H31.out.lj.cr, H31.out.lj.cd⟩ (fun _ => ?_)
        clear hKK KK
        try simp only [Act.put, List.setIfInBounds_toArray, List.set_cons_zero, List.set_cons_succ]
        refine step_h (i := 0) rfl (by kernel_rfl) ?_
        intro KK hKK
        have ci33 := H31.out.lj.ci
        go_simp
        refine hKK.out _ _ ⟨H31.out.lj.cr, H31.out.lj.cd⟩ (fun _ => ?_)
        clear hKK KK ci33
        try simp only [Act.put, List.setIfInBounds_toArray, List.set_cons_zero, List.set_cons_succ]
        refine take_h (i := 5) (v := ?_) rfl (by kernel_rfl) (by kernel_rfl) (by kernel_rfl) (fun _ _ _ h => h) (by rfl) ?_ ⟨H31.out.lj.cr, H31.out.lj.cd⟩ ?_
        rotate_left
        · (intro X hX; obtain ⟨y0, y1⟩ := hX; go_simp; try with_reducible rfl)
        simp only [Act.put, List.setIfInBounds_toArray, List.set_cons_zero, List.set_cons_succ]
        have hsx := H31.out.ow.size
        have hbg := H31.out.lj.big
        refine step_h (i := 7) rfl (by kernel_rfl) ?_
        intro KK hKK
        refine step_append_lies _ (by rfl) _ _ _ (by rfl) (w0.heap.size + 3) 27 i0 (.agg #[.int .i64 0, .int .i64 0, .string ⟨#[]⟩, .slice none 0 0, .slice none 0 0]) 5 80 Tryz.underlying24 hi hz0 hz1 hz2 rfl (by decide) _ E.length _ (by rfl) H31.out.lj.own ⟨W.heap.size, 0, none⟩ 1 1 [.int .i64 0, .int .i64 0, .string ⟨#[]⟩, .slice none 0 0, .slice none 0 0] (by rfl) rfl zc32.out (by intro u hu; simp at hu; rcases hu with rfl | rfl | rfl | rfl | rfl <;> rfl) (by decide) (by unfold maxLen; omega) (by omega) (by omega) w30.heap.size rfl ?_
        intro g9 cap9 w9 hown9 hgr9 hat9 hlt9
        obtain ⟨y0, y1, hne9, r0, r1, r2, r3, r4, rf, x0, xf⟩ := ka_row H31.out hown9 hgr9 hat9
        have hS9 : w9.cell? ⟨w0.heap.size, 0, none⟩ = some (.pointer (some ⟨b, 0, none⟩)) ∧ w9.cell? ⟨w0.heap.size + 1, 0, none⟩ = some (.int .i64 (d : Int)) := ⟨y0, y1⟩
        refine hKK.out _ _ hS9 (fun _ => ?_)
        clear hKK KK
        try simp only [Act.put, List.setIfInBounds_toArray, List.set_cons_zero, List.set_cons_succ]
        refine take_h (i := 8) (v := ?_) rfl (by kernel_rfl) (by kernel_rfl) (by kernel_rfl) (fun _ _ _ h => h) (by rfl) ?_ hS9 ?_
        rotate_left
        · (intro X hX; obtain ⟨y0, y1⟩ := hX; go_simp; try with_reducible rfl)
        simp only [Act.put, List.setIfInBounds_toArray, List.set_cons_zero, List.set_cons_succ]
        have hnd := hid (HEND.out _ _ _ _ _ H31.out hown9 hgr9 hat9)
        refine step2_h (i := 9) (j := 10) rfl rfl (by kernel_rfl) ?_ ?_
        · intro KK hKK
          go_simp
          change KK _ (put5 w9 g9 (E.length * 5) (.int .i64 T.kd) (.int .i64 T.nm) (.string T.st) (.slice t1 t2 t3) (.slice t4 t5 t6))
          have q0 := (World.cell?_of_block (w := w9) (a := ⟨w0.heap.size, 0, none⟩) (put5_heap w9 g9 (E.length * 5) (.int .i64 T.kd) (.int .i64 T.nm) (.string T.st) (.slice t1 t2 t3) (.slice t4 t5 t6) w0.heap.size hne9.1)).trans y0
          have q1 := (World.cell?_of_block (w := w9) (a := ⟨w0.heap.size + 1, 0, none⟩) (put5_heap w9 g9 (E.length * 5) (.int .i64 T.kd) (.int .i64 T.nm) (.string T.st) (.slice t1 t2 t3) (.slice t4 t5 t6) (w0.heap.size + 1) hne9.2.1)).trans y1
          have q2 := (World.cell?_of_block (w := w9) (a := ⟨w0.heap.size + 4, 0, none⟩) (put5_heap w9 g9 (E.length * 5) (.int .i64 T.kd) (.int .i64 T.nm) (.string T.st) (.slice t1 t2 t3) (.slice t4 t5 t6) (w0.heap.size + 4) (fun e => hne9.2.2 e.symm))).trans x0
          have q3 := (World.frozen?_of_block (w := w9) (a := ⟨w0.heap.size + 4, 0, none⟩) (put5_heap w9 g9 (E.length * 5) (.int .i64 T.kd) (.int .i64 T.nm) (.string T.st) (.slice t1 t2 t3) (.slice t4 t5 t6) (w0.heap.size + 4) (fun e => hne9.2.2 e.symm))).trans (xf 0)
          have HFI : Hid (Mo w9 ((put5 w9 g9 (E.length * 5) (.int .i64 T.kd) (.int .i64 T.nm) (.string T.st) (.slice t1 t2 t3) (.slice t4 t5 t6)).setCell ⟨w0.heap.size + 4, 0, none⟩ (.slice (some ⟨g9, 0, none⟩) (E.length + 1) cap9)) g9 (w0.heap.size + 4) (E.length * 5) (.slice (some ⟨g9, 0, none⟩) (E.length + 1) cap9) (.int .i64 T.kd) (.int .i64 T.nm) (.string T.st) (.slice t1 t2 t3) (.slice t4 t5 t6)) := hid (mo_a hne9.2.2)
          have HS2 := hid (mo_two hne9 ⟨y0, y1⟩ HFI.out)
          have HPE := hid (hnd.out _ HFI.out)
          generalize (put5 w9 g9 (E.length * 5) (.int .i64 T.kd) (.int .i64 T.nm) (.string T.st) (.slice t1 t2 t3) (.slice t4 t5 t6)) = WA at q0 q1 q2 q3 HS2 HPE ⊢
          clear HFI r0 r1 r2 r3 r4 rf x0 xf y0 y1 hS9
          refine hKK.out _ _ ⟨q0, q1⟩ (fun hSA => ?_)
          clear hKK KK
          refine step_h (i := 10) rfl (by kernel_rfl) ?_
          intro KK hKK
          go_simp
          refine hKK.out _ _ HS2.out (fun _ => ?_)
          clear hKK KK
          refine wpAnyH_done (by kernel_rfl) ?_ _
          first | go_end0 | refine bodyPost_ret (results_none rfl _ _ _) rfl ?_
          rw [HST.out]; exact ⟨rfl, HPE.out⟩
        · intro KK hKK
          go_simp
          have q0 := (set_other w9 (w0.heap.size + 4) w0.heap.size 0 0 (.slice (some ⟨g9, 0, none⟩) (E.length + 1) cap9) (Or.inl (by omega))).trans y0
          have q1 := (set_other w9 (w0.heap.size + 4) (w0.heap.size + 1) 0 0 (.slice (some ⟨g9, 0, none⟩) (E.length + 1) cap9) (Or.inl (by omega))).trans y1
          have s0 := (set_other w9 (w0.heap.size + 4) g9 0 (E.length * 5) (.slice (some ⟨g9, 0, none⟩) (E.length + 1) cap9) (Or.inl (fun e => hne9.2.2 e.symm))).trans r0
          have s1 := (set_other w9 (w0.heap.size + 4) g9 0 (E.length * 5 + 1) (.slice (some ⟨g9, 0, none⟩) (E.length + 1) cap9) (Or.inl (fun e => hne9.2.2 e.symm))).trans r1
          have s2 := (set_other w9 (w0.heap.size + 4) g9 0 (E.length * 5 + 2) (.slice (some ⟨g9, 0, none⟩) (E.length + 1) cap9) (Or.inl (fun e => hne9.2.2 e.symm))).trans r2
          have s3 := (set_other w9 (w0.heap.size + 4) g9 0 (E.length * 5 + 3) (.slice (some ⟨g9, 0, none⟩) (E.length + 1) cap9) (Or.inl (fun e => hne9.2.2 e.symm))).trans r3
          have s4 := (set_other w9 (w0.heap.size + 4) g9 0 (E.length * 5 + 4) (.slice (some ⟨g9, 0, none⟩) (E.length + 1) cap9) (Or.inl (fun e => hne9.2.2 e.symm))).trans r4
          have sf : ∀ o, (w9.setCell ⟨w0.heap.size + 4, 0, none⟩ (.slice (some ⟨g9, 0, none⟩) (E.length + 1) cap9)).frozen? ⟨g9, o, none⟩ = false := fun o => (World.frozen?_of_block (w := w9) (a := ⟨g9, o, none⟩) (Below.heap_setCell _ _ _ _ hne9.2.2)).trans (rf o)
          have HFI : Hid (Mo w9 (put5 (w9.setCell ⟨w0.heap.size + 4, 0, none⟩ (.slice (some ⟨g9, 0, none⟩) (E.length + 1) cap9)) g9 (E.length * 5) (.int .i64 T.kd) (.int .i64 T.nm) (.string T.st) (.slice t1 t2 t3) (.slice t4 t5 t6)) g9 (w0.heap.size + 4) (E.length * 5) (.slice (some ⟨g9, 0, none⟩) (E.length + 1) cap9) (.int .i64 T.kd) (.int .i64 T.nm) (.string T.st) (.slice t1 t2 t3) (.slice t4 t5 t6)) := hid (mo_b hne9.2.2)
          have HS2 := hid (mo_two hne9 ⟨y0, y1⟩ HFI.out)
          have HPE := hid (hnd.out _ HFI.out)
          generalize (w9.setCell ⟨w0.heap.size + 4, 0, none⟩ (.slice (some ⟨g9, 0, none⟩) (E.length + 1) cap9)) = WA at q0 q1 s0 s1 s2 s3 s4 sf HS2 HPE ⊢
          clear HFI r0 r1 r2 r3 r4 rf x0 xf y0 y1 hS9
          refine hKK.out _ _ ⟨q0, q1⟩ (fun hSA => ?_)
          clear hKK KK
          refine step_h (i := 9) rfl (by kernel_rfl) ?_
          intro KK hKK
          go_simp
          change KK _ (put5 WA g9 (E.length * 5) (.int .i64 T.kd) (.int .i64 T.nm) (.string T.st) (.slice t1 t2 t3) (.slice t4 t5 t6))
          refine hKK.out _ _ HS2.out (fun _ => ?_)
          clear hKK KK
          refine wpAnyH_done (by kernel_rfl) ?_ _
          first | go_end0 | refine bodyPost_ret (results_none rfl _ _ _) rfl ?_
          rw [HST.out]; exact ⟨rfl, HPE.out⟩
end Go.Proofs.YtkhjahpkbjafaaaGreatDoor
namespace Go.Proofs.YtkhjahpkbjafaaaGreatDoor
open Go.RowKit

theorem LJ.inl {w wr : World} {b d : Nat} {E : List (VT × Value × Value)} {u : Value} (h : LJ w wr b d E u) : InL wr (E.map (·.1)) u := by
  obtain ⟨a, f, g, h1, -, h3, h4⟩ := own_ls (S := fun _ => True) h.own (fun e he => (h.prt e he).onto (fun _ _ => rfl) (fun _ _ => trivial)) (fun _ _ => trivial)
  exact ⟨a, f, g, h1, h3, fun i t ht => (h4 i t ht).hv⟩
theorem stL_ends {d : Nat} : ∀ (s : List VT) (n : Nat) (ws : List Wd) (f : Nat) (s' : List VT) (m : Nat) (q : List Wd), EndW ws → stL d f s n ws = .ok s' m q → q.length < ws.length := by
  intro s n ws f s' m q he h
  unfold stL at h
  cases hv : jrV f (d + 1) n ws with
  | bad e a => rw [hv] at h; cases h
  | ok t m' q' =>
    rw [hv] at h
    injection h with h1 h2 h3
    subst h3
    exact ((jr_ends f).1 _ _ _ _ _ _ he hv).2.1
theorem sd_if {σ : Type} {c : UInt8} {ws : List Wd} {s : σ} {n : Nat} {R : Sd σ} {g : σ → VT} : (if isM c ws = true then Sd.ok s n ws.tail else R).rd g = if isM c ws = true then Rd.ok (g s) n ws.tail else R.rd g := by
  split <;> rfl
/-- where a list's reading begins -/
def lw0 (w : World) (b d : Nat) : World := ((((w.alloc (.cells #[.pointer (some ⟨b, 0, none⟩)] 90)).alloc (.cells #[.int .i64 (d : Int)] 3)).alloc (.cells #[.int .i64 0, .int .i64 0, .string ⟨#[]⟩, .slice none 0 0, .slice none 0 0] 27)).alloc (.cells #[] 27)).alloc (.cells #[.slice (some ⟨w.heap.size + 3, 0, none⟩) 0 0] 24)
theorem lw0_bel (w : World) (b d : Nat) : Below w.heap.size w (lw0 w b d) := valloc_bel (valloc_bel (valloc_bel (valloc_bel (valloc_bel (Below.refl _ _) _) _) _) _) _
theorem new_cell1 (w : World) (u : Value) (t : TypeId) : (w.alloc (.cells #[u] t)).cell? ⟨w.heap.size, 0, none⟩ = some u := by simp
theorem lj_new (w : World) (b d : Nat) : LJ w (lw0 w b d) b d [] (.slice (some ⟨w.heap.size + 3, 0, none⟩) 0 0) := by
  unfold lw0
  have e1 : (w.alloc (.cells #[.pointer (some ⟨b, 0, none⟩)] 90)).heap.size = w.heap.size + 1 := by simp
  have c1 := new_cell1 w (.pointer (some ⟨b, 0, none⟩)) 90
  generalize (w.alloc (.cells #[.pointer (some ⟨b, 0, none⟩)] 90)) = w1 at e1 c1 ⊢
  have e2 : (w1.alloc (.cells #[.int .i64 (d : Int)] 3)).heap.size = w.heap.size + 2 := by simp [e1]
  have c2 := new_cell1 w1 (.int .i64 (d : Int)) 3
  have c1' := keepCell (valloc_bel (Below.refl _ _) (.cells #[.int .i64 (d : Int)] 3)) c1
  rw [e1] at c2
  generalize (w1.alloc (.cells #[.int .i64 (d : Int)] 3)) = w2 at e2 c1' c2 ⊢
  have z2 := z5_new w2
  rw [e2] at z2
  have e3 : (w2.alloc (.cells #[.int .i64 0, .int .i64 0, .string ⟨#[]⟩, .slice none 0 0, .slice none 0 0] 27)).heap.size = w.heap.size + 3 := by simp [e2]
  have k3 := valloc_bel (Below.refl w2.heap.size w2) (.cells #[.int .i64 0, .int .i64 0, .string ⟨#[]⟩, .slice none 0 0, .slice none 0 0] 27)
  have d1 := keepCell k3 c1'
  have d2 := keepCell k3 c2
  generalize (w2.alloc (.cells #[.int .i64 0, .int .i64 0, .string ⟨#[]⟩, .slice none 0 0, .slice none 0 0] 27)) = w3 at e3 z2 d1 d2 ⊢
  have o4 := World.ownsRow_lit (base := w.heap.size + 3) (e := 27) (size := 5) w3 #[] 0 (by omega) (by decide) rfl
  rw [e3] at o4
  have e4 : (w3.alloc (.cells #[] 27)).heap.size = w.heap.size + 4 := by simp [e3]
  have k4 := valloc_bel (Below.refl w3.heap.size w3) (.cells #[] 27)
  have f1 := keepCell k4 d1
  have f2 := keepCell k4 d2
  have z4 := z2.onto k4
  generalize (w3.alloc (.cells #[] 27)) = w4 at e4 z4 f1 f2 o4 ⊢
  have k5 := valloc_bel (Below.refl w4.heap.size w4) (.cells #[.slice (some ⟨w.heap.size + 3, 0, none⟩) 0 0] 24)
  have c5 := new_cell1 w4 (.slice (some ⟨w.heap.size + 3, 0, none⟩) 0 0) 24
  have r5 := Row.new w4 #[.slice (some ⟨w.heap.size + 3, 0, none⟩) 0 0] 24
  rw [e4] at c5 r5
  exact ⟨o4.alloc _, by simp [Value.ownBlock], fun e he => by simp at he, c5, r5, keepCell k5 f1, keepCell k5 f2, z4.onto k5, by simp [e4]⟩
set_option maxRecDepth 100000 in
set_option maxHeartbeats 4000000 in
theorem jlist8 (N : Nat) (hV : JvOk N) : JlOk N := by
  intro b t v ws n d w f hA hd hN hf
  have hbw : b < w.heap.size := hA.jr.row.lt
  obtain ⟨K, hK, hKw, hKb⟩ : ∃ K, blkV v = some K ∧ K < w.heap.size ∧ ¬ K = b := by
    obtain ⟨x, r, e⟩ := hA.ends.ne
    have := hA.wm
    rw [e] at this
    exact this.blk
  have HA := hid hA
  have HP := hid (fun (W : World) (hP : Pv w b t K (AccL w b d) [] n ws v W) => jparts_any 88 #[.pointer (some ⟨w.heap.size + 4, 0, none⟩), .pointer (some ⟨w.heap.size, 0, none⟩), .pointer (some ⟨w.heap.size + 1, 0, none⟩)] 93 (stL d) N w b t K (AccL w b d) (enters_of Tryz.func88 (by kernel_rfl) rfl) (accl_far hbw) (fun s n ws v W f h1 h2 h3 => jlist1 N hV w b t K d hd hbw hKw s n ws v W f h1 h2 h3) stL_ends [] n ws v W f hP hN hf)
  obtain ⟨R0, hR0⟩ : ∃ R0, R0 = (if isM 93 ws = true then Sd.ok [] n ws.tail else ptM 93 (stL d) f [] n ws) := ⟨_, rfl⟩
  have hRR : (if isM 93 ws = true then Rd.ok (listT []) n ws.tail else jrL f d n [] ws) = R0.rd listT := by rw [hR0, sd_if, jrL_pt]
  rw [hRR]
  rw [← hR0] at HP
  have hmf : ∀ (fn : Fn) (first cap : Array Value) (w : World), (Instr.makeFunc fn first cap).run Tryz.prog w = .ok (.func fn first cap) w := fun _ _ _ _ => rfl
  clear hA hR0 hRR hV
  go_enter Tryz.func61, Tryz.ntmps61
  go_upto_region 2 with fail
  rw [show w.heap.size + 1 + 1 + 1 + 1 = w.heap.size + 4 from rfl, show w.heap.size + 1 + 1 + 1 = w.heap.size + 3 from rfl, show w.heap.size + 1 + 1 = w.heap.size + 2 from rfl]
  change Code.wp _ _ _ _ (lw0 w b d)
  have H0 := hid (lj_new w b d)
  have HB0 := hid (lw0_bel w b d)
  have cr := H0.out.cr
  generalize lw0 w b d = W0 at H0 HB0 cr ⊢
  have CP := hid (HP.out W0 ⟨⟨HA.out.jr.onto HB0.out, HA.out.wm.onto HB0.out, HA.out.ends, HA.out.fine, HA.out.len, HA.out.txt, HA.out.nod, HA.out.tsz, HA.out.gl.own (Own.of HB0.out)⟩, hK, ⟨Nat.zero_le _, [], _, rfl, H0.out⟩, Own.of HB0.out⟩)
  go_wp2_with fail
  go_at_call 87
  refine CP.out.mono ?_
  intro e w1 hps
  cases R0 with
  | bad er a =>
    have hfa := hps.1
    have HPP : Hid (Rj b t v ((Sd.bad (σ := List VT) er a).rd listT) w e w1) := hid hps
    unfold Faulted at hfa
    subst hfa
    generalize faultV t (a : Int) (er : Int) = fv at HPP ⊢
    clear hps CP
    go_wp2_with fail
    first
    | exact ⟨rfl, HPP.out⟩
    | exact HPP.out
  | ok s m q =>
    obtain ⟨rfl, v', hpv⟩ := hps
    obtain ⟨hsz, E, u, hE, hlj⟩ := hpv.acc
    obtain ⟨oN, cN, rfl⟩ := own_shape hlj.own
    have HPV := hid hpv
    have HLJ := hid hlj
    have ci := hlj.ci
    have hbig := hlj.big
    have CV := hid (vlist_any s (.slice oN E.length cN) w1 (by rw [← hE]; exact hlj.inl) (by have := hpv.aj.nod; omega))
    clear hpv hlj CP cr
    go_wp2_with fail
    go_at_call 89
    refine CV.out.mono ?_
    rintro e w2 ⟨X, rfl, hx, hb2⟩
    obtain ⟨o1, n1, c1, o2, n2, c2, rfl, -⟩ := hv_slices hx.hs.hv
    have HX := hid hx
    have HB2 := hid hb2
    have Z2 := hid (HLJ.out.zer.onto hb2)
    have hs2 := hb2.size
    clear hx hb2 CV ci
    simp only [vv, VT.kd, VT.nm, VT.st]
    obtain ⟨⟨q0, q1, q2, q3, q4⟩, qf⟩ := Z2.out
    go_wp2_with fail
    obtain ⟨s0, s1, s2, s3, s4⟩ := z5_put Z2.out (listT s) (.slice o1 n1 c1) (.slice none 0 0)
    simp only [put5, Nat.zero_add, listT, VT.kd, VT.nm, VT.st] at s0 s1 s2 s3 s4
    refine bodyPost_ret (v := vv (listT s) (.slice o1 n1 c1) (.slice none 0 0)) (by simp [results, Tryz.results61, go_sem, vv, listT, VT.kd, VT.nm, VT.st, s0, s1, s2, s3, s4]) rfl ?_
    have hkk := HPV.out.blk
    exact ⟨_, _, v', rfl, (HPV.out.aj.jr.onto HB2.out).same (put5_heap _ _ _ _ _ _ _ _ _ (by omega)), (HPV.out.aj.wm.onto HB2.out).stay hkk (put5_heap _ _ _ _ _ _ _ _ _ (by omega)), hkk.trans hK.symm, hs_put (H := w.heap.size + 2) (lo := w1.heap.size) (by omega) HX.out.hs (by omega), Own.put (HPV.out.own.trans (Own.of HB2.out)) (by omega) _ _ _ _ _⟩
end Go.Proofs.YtkhjahpkbjafaaaGreatDoor
namespace Go.Proofs.YtkhjahpkbjafaaaGreatDoor
open Go.RowKit

theorem Tryz.keyed : Maps.Keyed Tryz.prog 9 := Maps.string_keyed Tryz.underlying9
theorem Tryz.zeroU (w : World) : (zeroValue 137).run Tryz.prog w = .ok (.agg #[]) w := by kernel_rfl
/-- keys as the map has them -/
def litK (ks : List ByteArray) : List Lit := ks.map fun k => Lit.string k.data.toList
def setD (ks : List ByteArray) : DataW Unit := Maps.setOf (.agg []) (litK ks)
/-- the keys that a map has -/
def Seen (w : World) (m : Nat) (ks : List ByteArray) : Prop := w.ownsMap Tryz.prog 9 (unitElem (H := Unit)) m ks.length (setD ks)
/-- only two of the elder blocks have changed -/
structure Own2 (b m : Nat) (w w' : World) : Prop where
  os : w'.os = w.os
  tape : w'.tape = w.tape
  output : w'.output = w.output
  size : w.heap.size ≤ w'.heap.size
  block : ∀ k, k < w.heap.size → k ≠ b → k ≠ m → w'.heap[k]? = w.heap[k]?
theorem Own2.of {b m : Nat} {w w' : World} (h : Own b w w') : Own2 b m w w' := ⟨h.os, h.tape, h.output, h.size, fun k hk h1 _ => h.block k hk (fun e => h1 (by injection e))⟩
theorem Own2.trans {b m : Nat} {w w1 w2 : World} (h : Own2 b m w w1) (k : Own2 b m w1 w2) : Own2 b m w w2 :=
  ⟨k.os.trans h.os, k.tape.trans h.tape, k.output.trans h.output, Nat.le_trans h.size k.size, fun i hi h1 h2 => (k.block i (Nat.lt_of_lt_of_le hi h.size) h1 h2).trans (h.block i hi h1 h2)⟩
theorem Own2.grown {b m : Nat} {w w' : World} (h : w.grownBy w' (some m)) : Own2 b m w w' := ⟨h.os, h.tape, h.output, h.size, fun k hk _ h2 => h.block k hk (fun e => h2 (by injection e))⟩
theorem Own2.own {b m : Nat} {w0 w w' : World} (h : Own b w0 w) (k : Own2 b m w w') (hm : w0.heap.size ≤ m) : Own b w0 w' :=
  ⟨k.os.trans h.os, k.tape.trans h.tape, k.output.trans h.output, Nat.le_trans h.size k.size, fun i hi hn => (k.block i (Nat.lt_of_lt_of_le hi h.size) (fun e => hn (by rw [e])) (by omega)).trans (h.block i hi hn)⟩
theorem lit_key (ks : List ByteArray) : ∀ x ∈ litK ks, WideAt.IsKeyLit x := by
  intro x hx
  unfold litK at hx
  obtain ⟨k, -, rfl⟩ := List.mem_map.1 hx
  exact trivial
theorem has_set (ks : List ByteArray) (l : List UInt8) : Maps.has (setD ks) (.string l) = ks.any (fun k => decide (k.data.toList = l)) := by
  unfold setD
  rw [Maps.has_setOf _ _ _ (lit_key ks)]
  unfold litK
  rw [List.any_map]
  congr 1
  funext k
  rw [Bool.eq_iff_iff]
  simp [Lit.sameKey]
theorem Seen.kept {w w' : World} {m : Nat} {ks : List ByteArray} (h : Seen w m ks) (e : w'.heap[m]? = w.heap[m]?) : Seen w' m ks := by
  obtain ⟨es, clock, hb, F, hs, hD⟩ := h
  exact ⟨es, clock, e.trans hb, F, hs, hD⟩
theorem seen_new (w : World) : Seen (w.alloc (.map #[] 0)) w.heap.size [] := World.ownsMap_made w _ _ _
theorem Seen.lt {w : World} {m : Nat} {ks : List ByteArray} (h : Seen w m ks) : m < w.heap.size := World.ownsMap.lt h
theorem Tryz.keyS {s : ByteArray} (h : s.size ≤ maxLen) : keyOf Tryz.prog 9 (.string s) = some (.string s.data.toList) := WideMaps.keyOf_string_mk Tryz.underlying9 h
set_option maxRecDepth 100000 in
set_option maxHeartbeats 2000000 in
theorem jkey_kind (b m : Nat) (t : ByteArray) (v : Value) (n : Nat) (x : Wd) (r : List Wd) (w : World) (h : Jr w b t v n) (hw : Wm w b (x :: r) v) (hs : t.size ≤ 1000000) (hk : ¬ x.kd = 2) :
    Calls Tryz.prog 91 #[.pointer (some ⟨b, 0, none⟩), .map (some m)] w fun e w' => Faulted t 4 x.at_ e ∧ Below w.heap.size w w' := by
  have HJ := hid h
  have HW := hid hw
  have CR := hid (fun X (hX : Below w.heap.size w X) => jrefuse_any b t v n x r 4 X (HJ.out.onto hX) (HW.out.onto hX) hs)
  obtain ⟨a, n', c, rfl⟩ : ∃ a n' c, v = .slice (some a) n' c := by
    obtain ⟨o, a, cap, e, -, -, h3, -, -⟩ := hw
    rw [h3 (by simp)] at e
    exact ⟨_, _, _, e⟩
  obtain ⟨rfl, h1, h2, -, k0, k1, k2⟩ := wm_tail hw
  have r1 := h.r1
  unfold maxLen at h2
  have hkb : ((x.kd : Int) != 2) = true := by simp; omega
  have hb := valloc_bel (Below.refl w.heap.size w) (.cells #[.int .i64 (x.kd : Int), .string (mkS x.tx), .int .i64 (x.at_ : Int)] 70)
  have HB := hid hb
  unfold Faulted at CR ⊢
  rw [show ((4 : Nat) : Int) = 4 from rfl] at CR ⊢
  generalize faultV t (x.at_ : Int) 4 = fv at CR ⊢
  clear h hw hk hb
  go_enter Tryz.func91, Tryz.ntmps91
  go_wp2_with fail
  go_at_call 42
  refine (CR.out _ HB.out).mono ?_
  rintro e w2 ⟨rfl, hb2⟩
  have HP := hid (vonto HB.out hb2)
  clear hb2
  go_wp2_with fail
  first
  | exact ⟨rfl, rfl, HP.out⟩
  | exact ⟨rfl, HP.out⟩
  | (simp only [bodyPost]; exact ⟨rfl, HP.out⟩)
set_option maxRecDepth 100000 in
set_option maxHeartbeats 2000000 in
theorem jkey_twice (b m : Nat) (t : ByteArray) (v : Value) (n : Nat) (x : Wd) (r : List Wd) (ks : List ByteArray) (w : World) (h : Jr w b t v n) (hw : Wm w b (x :: r) v) (hs : t.size ≤ 1000000) (hk : x.kd = 2) (htx : x.tx.length ≤ 65536) (hm : Seen w m ks) (hin : ks.any (fun k => decide (k.data.toList = x.tx)) = true) :
    Calls Tryz.prog 91 #[.pointer (some ⟨b, 0, none⟩), .map (some m)] w fun e w' => Faulted t 5 x.at_ e ∧ Below w.heap.size w w' := by
  have HJ := hid h
  have HW := hid hw
  have CR := hid (fun X (hX : Below w.heap.size w X) => jrefuse_any b t v n x r 5 X (HJ.out.onto hX) (HW.out.onto hX) hs)
  obtain ⟨a, n', c, rfl⟩ : ∃ a n' c, v = .slice (some a) n' c := by
    obtain ⟨o, a, cap, e, -, -, h3, -, -⟩ := hw
    rw [h3 (by simp)] at e
    exact ⟨_, _, _, e⟩
  obtain ⟨rfl, h1, h2, -, k0, k1, k2⟩ := wm_tail hw
  have r1 := h.r1
  have HKEY := hid (Tryz.keyS (s := mkS x.tx) (by rw [mkS_size]; unfold maxLen; omega))
  unfold maxLen at h2
  have hkb : ((x.kd : Int) != 2) = false := by rw [hk]; rfl
  have hhas : Maps.has (setD ks) (.string (mkS x.tx).data.toList) = true := by rw [has_set, mkS_list]; exact hin
  have hb := valloc_bel (Below.refl w.heap.size w) (.cells #[.int .i64 (x.kd : Int), .string (mkS x.tx), .int .i64 (x.at_ : Int)] 70)
  have HSN := hid (World.ownsMap.alloc hm (.cells #[.int .i64 (x.kd : Int), .string (mkS x.tx), .int .i64 (x.at_ : Int)] 70))
  have HB := hid (valloc_bel hb (.cells #[] 137))
  unfold Faulted at CR ⊢
  rw [show ((5 : Nat) : Int) = 5 from rfl] at CR ⊢
  generalize faultV t (x.at_ : Int) 5 = fv at CR ⊢
  clear h hw hk hb hm hin
  go_enter Tryz.func91, Tryz.ntmps91
  go_wp2_with (at_lookup; refine wpList_lookup_own_unit _ rfl _ _ 123 rfl 9 137 Tryz.keyed Tryz.underlying123 (Tryz.zeroU _) m ks.length (setD ks) rfl HSN.out _ _ rfl HKEY.out ?_)
  go_at_call 42
  refine (CR.out _ HB.out).mono ?_
  rintro e w2 ⟨rfl, hb2⟩
  have HP := hid (vonto HB.out hb2)
  clear hb2
  go_wp2_with fail
  first
  | exact ⟨rfl, rfl, HP.out⟩
  | exact ⟨rfl, HP.out⟩
  | (simp only [bodyPost]; exact ⟨rfl, HP.out⟩)
theorem setD_snoc (ks : List ByteArray) (k : ByteArray) : setD (ks ++ [k]) = (setD ks).put (.string k.data.toList) (.agg []) := by
  unfold setD litK
  rw [List.map_append]
  exact Maps.setOf_snoc _ _ _
set_option maxRecDepth 100000 in
set_option maxHeartbeats 2000000 in
theorem jkey_new (b m K : Nat) (t : ByteArray) (v : Value) (n : Nat) (x : Wd) (r : List Wd) (ks : List ByteArray) (w : World) (h : Jr w b t v n) (hw : Wm w b (x :: r) v) (hk : x.kd = 2) (htx : x.tx.length ≤ 65536) (hm : Seen w m ks) (hl : ks.length ≤ 100000) (hmb : ¬ b = m) (hK : blkV v = some K) (hKm : ¬ K = m) (hin : ks.any (fun k => decide (k.data.toList = x.tx)) = false) :
    Calls Tryz.prog 91 #[.pointer (some ⟨b, 0, none⟩), .map (some m)] w fun e w' => e = .returned (.string (mkS x.tx)) ∧ ∃ v', Jr w' b t v' n ∧ Wm w' b r v' ∧ blkV v' = blkV v ∧ Seen w' m (ks ++ [mkS x.tx]) ∧ Own2 b m w w' := by
  have HJ := hid h
  have HW := hid hw
  have HK := hid hK
  obtain ⟨a, n', c, rfl⟩ : ∃ a n' c, v = .slice (some a) n' c := by
    obtain ⟨o, a, cap, e, -, -, h3, -, -⟩ := hw
    rw [h3 (by simp)] at e
    exact ⟨_, _, _, e⟩
  obtain ⟨rfl, h1, h2, -, k0, k1, k2⟩ := wm_tail hw
  have r1 := h.r1
  have hbl := h.row.lt
  have hml := hm.lt
  have HKEY := hid (Tryz.keyS (s := mkS x.tx) (by rw [mkS_size]; unfold maxLen; omega))
  unfold maxLen at h2
  have hkb : ((x.kd : Int) != 2) = false := by rw [hk]; rfl
  have hhas : Maps.has (setD ks) (.string (mkS x.tx).data.toList) = false := by rw [has_set, mkS_list]; exact hin
  have hb := valloc_bel (Below.refl w.heap.size w) (.cells #[.int .i64 (x.kd : Int), .string (mkS x.tx), .int .i64 (x.at_ : Int)] 70)
  have HSN := hid (World.ownsMap.alloc hm (.cells #[.int .i64 (x.kd : Int), .string (mkS x.tx), .int .i64 (x.at_ : Int)] 70))
  have HSN2 := hid (World.ownsMap.alloc HSN.out (.cells #[] 137))
  have HB := hid (valloc_bel hb (.cells #[] 137))
  have c0 : (w.alloc (.cells #[.int .i64 (x.kd : Int), .string (mkS x.tx), .int .i64 (x.at_ : Int)] 70)).cell? ⟨w.heap.size, 1, none⟩ = some (.string (mkS x.tx)) := by simp
  have C1 := hid (keepCell (valloc_bel (Below.refl _ _) (.cells #[] 137)) c0)
  clear h hw hk hb hm hin hK c0
  go_enter Tryz.func91, Tryz.ntmps91
  go_wp2_with (first
    | (at_lookup; refine wpList_lookup_own_unit _ rfl _ _ 123 rfl 9 137 Tryz.keyed Tryz.underlying123 (Tryz.zeroU _) m ks.length (setD ks) rfl HSN.out _ _ rfl HKEY.out ?_)
    | (at_mapUpdate; refine wpList_mapUpdate_own _ rfl _ _ _ 123 rfl 9 137 Tryz.keyed Tryz.underlying123 unitElem m ks.length (setD ks) rfl HSN2.out (by unfold maxLen; omega) _ _ _ rfl rfl HKEY.out (.agg []) [] unitElem_mk ?_; intro w1 hown1 hgr1))
  go_at_call 59
  have hs0 := HB.out.size
  have hbb : w1.heap[b]? = w.heap[b]? := (hgr1.block b (by omega) (fun e => hmb (by injection e))).trans (HB.out.block b hbl)
  obtain ⟨K', hK', hKl, hKb⟩ := HW.out.blk
  have hKK : K' = K := by have := HK.out; rw [hK'] at this; injection this
  subst hKK
  have hbk : w1.heap[K']? = w.heap[K']? := (hgr1.block K' (by omega) (fun e => hKm (by injection e))).trans (HB.out.block K' hKl)
  have c1 : w1.cell? ⟨w.heap.size, 1, none⟩ = some (.string (mkS x.tx)) := (World.cell?_of_block (w := ((w.alloc (.cells #[.int .i64 (x.kd : Int), .string (mkS x.tx), .int .i64 (x.at_ : Int)] 70)).alloc (.cells #[] 137))) (hgr1.block w.heap.size (by simp; omega) (fun e => by injection e with e; omega))).trans C1.out
  refine (jstep_any b t (.slice (some a) (r.length + 1) c) n x r w1 (HJ.out.same hbb) (HW.out.stay hK' hbk)).mono ?_
  rintro e w2 ⟨rfl, v2, j1, j2, j3, j4⟩
  have c2 := j3.cell c1 (by show ¬ w.heap.size = b; omega)
  have HFIN : Hid (∃ v', Jr w2 b t v' n ∧ Wm w2 b r v' ∧ blkV v' = blkV (.slice (some a) (r.length + 1) c) ∧ Seen w2 m (ks ++ [mkS x.tx]) ∧ Own2 b m w w2) := hid (by
    refine ⟨v2, j1, j2, j4, ?_, ?_⟩
    · have hsn : Seen w1 m (ks ++ [mkS x.tx]) := by
        unfold Seen
        rw [setD_snoc, List.length_append]
        exact hown1
      exact hsn.kept (j3.block m (by have := hgr1.size; omega) (fun e => hmb (by injection e with e; exact e.symm)))
    · exact ((Own2.of (Own.of HB.out)).trans (Own2.grown hgr1)).trans (Own2.of j3))
  clear j1 j2 j3 j4 c1 hbb hbk hown1 hgr1 HSN HSN2
  go_wp2_with fail
  go_ret
  exact ⟨rfl, HFIN.out⟩
end Go.Proofs.YtkhjahpkbjafaaaGreatDoor
namespace Go.Proofs.YtkhjahpkbjafaaaGreatDoor
open Go.RowKit

/-- a map that is being read: its pairs in a row of its own, its keys in a set; the closure's boxes, the result's -/
structure MJ (w wr : World) (b d : Nat) (ks : List ByteArray) (E : List (ByteArray × VT × Value × Value)) (u : Value) : Prop where
  own : wr.ownsRow (w.heap.size + 5) 52 6 u E.length (E.flatMap pc)
  nb : ¬ u.ownBlock = some (w.heap.size + 6)
  prt : ∀ e ∈ E, e.1.size ≤ maxLen ∧ HS wr (fun q => w.heap.size + 7 ≤ q ∧ q < wr.heap.size ∧ ¬ u.ownBlock = some q) e.2.1 e.2.2.1 e.2.2.2
  ci : wr.cell? ⟨w.heap.size + 6, 0, none⟩ = some u
  ri : Row wr (w.heap.size + 6) 25 1
  cr : wr.cell? ⟨w.heap.size, 0, none⟩ = some (.pointer (some ⟨b, 0, none⟩))
  cd : wr.cell? ⟨w.heap.size + 1, 0, none⟩ = some (.int .i64 (d : Int))
  cs : wr.cell? ⟨w.heap.size + 4, 0, none⟩ = some (.map (some (w.heap.size + 3)))
  set : Seen wr (w.heap.size + 3) ks
  zer : Z5 wr (w.heap.size + 2)
  big : w.heap.size + 7 ≤ wr.heap.size
/-- .. behind a change of the reader's own block and of the set's -/
theorem MJ.keys {w wr w' : World} {b d : Nat} {ks ks' : List ByteArray} {E : List (ByteArray × VT × Value × Value)} {u : Value} (h : MJ w wr b d ks E u) (ho : Own2 b (w.heap.size + 3) wr w') (hs' : Seen w' (w.heap.size + 3) ks') (hb : b < w.heap.size) : MJ w w' b d ks' E u := by
  have hs := ho.size
  have hbig := h.big
  have hbl : ∀ q, q < wr.heap.size → ¬ q = b → ¬ q = w.heap.size + 3 → w'.heap[q]? = wr.heap[q]? := fun q hq h1 h2 => ho.block q hq h1 h2
  have hc : ∀ q, q < w.heap.size + 7 → ¬ q = b → ¬ q = w.heap.size + 3 → w'.heap[q]? = wr.heap[q]? := fun q hq h1 h2 => hbl q (by omega) h1 h2
  refine ⟨?_, h.nb, fun e he => ⟨(h.prt e he).1, (h.prt e he).2.onto (fun q hq => hbl q hq.2.1 (by omega) (by omega)) (fun q hq => ⟨hq.1, by omega, hq.2.2⟩)⟩, (World.cell?_of_block (w := wr) (hc (w.heap.size + 6) (by omega) (by omega) (by omega))).trans h.ci, h.ri.onto (hc _ (by omega) (by omega) (by omega)), (World.cell?_of_block (w := wr) (hc w.heap.size (by omega) (by omega) (by omega))).trans h.cr, (World.cell?_of_block (w := wr) (hc (w.heap.size + 1) (by omega) (by omega) (by omega))).trans h.cd, (World.cell?_of_block (w := wr) (hc (w.heap.size + 4) (by omega) (by omega) (by omega))).trans h.cs, hs', h.zer.same (hc _ (by omega) (by omega) (by omega)), by omega⟩
  have hg : (wr.heap.size ≤ w'.heap.size) := hs
  rcases h.own with ⟨h1, ⟨h2, h3⟩ | ⟨g, cap, cur, h2, h3, h4, h5⟩⟩
  · exact ⟨h1, Or.inl ⟨h2, h3⟩⟩
  · refine ⟨h1, Or.inr ⟨g, cap, cur, h2, h3, ?_, h5⟩⟩
    rw [hbl g ((h.own.lt g (by rw [h2]; rfl)).2) (by omega) (by omega)]; exact h4
theorem MJ.far {w wr w' : World} {b d : Nat} {ks : List ByteArray} {E : List (ByteArray × VT × Value × Value)} {u : Value} (h : MJ w wr b d ks E u) (ho : Own b wr w') (hb : b < w.heap.size) : MJ w w' b d ks E u :=
  h.keys (Own2.of ho) (h.set.kept (ho.block _ (by have := h.big; omega) (fun e => by injection e with e; omega))) hb
/-- what is left behind the two stores, in whichever order -/
structure Mo6 (w9 wF : World) (g I o : Nat) (v x0 x1 x2 x3 x4 x5 : Value) : Prop where
  blk : ∀ q, q ≠ g → q ≠ I → wF.heap[q]? = w9.heap[q]?
  row : ∀ (base : Nat) (ty : TypeId) (k n cap : Nat) (xs : List Value), w9.ownsRow base ty k (.slice (some ⟨g, 0, none⟩) n cap) n xs → wF.ownsRow base ty k (.slice (some ⟨g, 0, none⟩) n cap) n ((((((xs.set o x0).set (o + 1) x1).set (o + 2) x2).set (o + 3) x3).set (o + 4) x4).set (o + 5) x5)
  cell : ∀ (ty : TypeId), Row w9 I ty 1 → wF.cell? ⟨I, 0, none⟩ = some v
  rowI : ∀ (ty : TypeId), Row w9 I ty 1 → Row wF I ty 1
  size : wF.heap.size = w9.heap.size
  os : wF.os = w9.os
  tape : wF.tape = w9.tape
  output : wF.output = w9.output
theorem put6_io (w : World) (b o : Nat) (v0 v1 v2 v3 v4 v5 : Value) : (put6 w b o v0 v1 v2 v3 v4 v5).os = w.os ∧ (put6 w b o v0 v1 v2 v3 v4 v5).tape = w.tape ∧ (put6 w b o v0 v1 v2 v3 v4 v5).output = w.output := by
  unfold put6
  simp only [set_io, and_self]
theorem put6_stored {w : World} {base : Nat} {ty : TypeId} {k n cap g : Nat} {xs : List Value} (h : w.ownsRow base ty k (.slice (some ⟨g, 0, none⟩) n cap) n xs) (o : Nat) (x0 x1 x2 x3 x4 x5 : Value) : (put6 w g o x0 x1 x2 x3 x4 x5).ownsRow base ty k (.slice (some ⟨g, 0, none⟩) n cap) n ((((((xs.set o x0).set (o + 1) x1).set (o + 2) x2).set (o + 3) x3).set (o + 4) x4).set (o + 5) x5) :=
  (((((((h.stored o x0).1).stored (o + 1) x1).1.stored (o + 2) x2).1.stored (o + 3) x3).1.stored (o + 4) x4).1.stored (o + 5) x5).1
theorem mo6_a {w9 : World} {g I o : Nat} {v x0 x1 x2 x3 x4 x5 : Value} (hne : ¬ g = I) : Mo6 w9 ((put6 w9 g o x0 x1 x2 x3 x4 x5).setCell ⟨I, 0, none⟩ v) g I o v x0 x1 x2 x3 x4 x5 := by
  refine ⟨fun q h1 h2 => (Below.heap_setCell _ _ _ _ h2).trans (put6_heap _ _ _ _ _ _ _ _ _ _ h1), fun base ty k n cap xs h => ?_, fun ty h => ?_, fun ty h => ?_, by simp [put6_size], ((set_io _ _ _).1).trans (put6_io _ _ _ _ _ _ _ _ _).1, ((set_io _ _ _).2.1).trans (put6_io _ _ _ _ _ _ _ _ _).2.1, ((set_io _ _ _).2.2).trans (put6_io _ _ _ _ _ _ _ _ _).2.2⟩
  · exact (put6_stored h o x0 x1 x2 x3 x4 x5).kept (set_grown _ I 0 v) (Or.inr (fun e => hne (by simpa [Value.ownBlock] using e)))
  · exact set_same (put6_row h g o x0 x1 x2 x3 x4 x5) (by omega) _
  · exact (put6_row h g o x0 x1 x2 x3 x4 x5).set _ _
theorem mo6_b {w9 : World} {g I o : Nat} {v x0 x1 x2 x3 x4 x5 : Value} (hne : ¬ g = I) : Mo6 w9 (put6 (w9.setCell ⟨I, 0, none⟩ v) g o x0 x1 x2 x3 x4 x5) g I o v x0 x1 x2 x3 x4 x5 := by
  refine ⟨fun q h1 h2 => (put6_heap _ _ _ _ _ _ _ _ _ _ h1).trans (Below.heap_setCell _ _ _ _ h2), fun base ty k n cap xs h => ?_, fun ty h => ?_, fun ty h => ?_, by simp [put6_size], ((put6_io _ _ _ _ _ _ _ _ _).1).trans (set_io _ _ _).1, ((put6_io _ _ _ _ _ _ _ _ _).2.1).trans (set_io _ _ _).2.1, ((put6_io _ _ _ _ _ _ _ _ _).2.2).trans (set_io _ _ _).2.2⟩
  · exact put6_stored (h.kept (set_grown _ I 0 v) (Or.inr (fun e => hne (by simpa [Value.ownBlock] using e)))) o x0 x1 x2 x3 x4 x5
  · rw [World.cell?_of_block (w := w9.setCell ⟨I, 0, none⟩ v) (put6_heap _ _ _ _ _ _ _ _ _ _ (fun e => hne e.symm))]
    exact set_same h (by omega) _
  · exact put6_row (h.set _ _) g o x0 x1 x2 x3 x4 x5
theorem set_six {L : List Value} {o : Nat} (hL : L.length = o) (z0 z1 z2 z3 z4 z5 x0 x1 x2 x3 x4 x5 : Value) : (((((((L ++ [z0, z1, z2, z3, z4, z5]).set o x0).set (o + 1) x1).set (o + 2) x2).set (o + 3) x3).set (o + 4) x4).set (o + 5) x5) = L ++ [x0, x1, x2, x3, x4, x5] := by
  subst hL
  simp [List.set_append_right]
theorem flat_len6 {E : List (ByteArray × VT × Value × Value)} : (E.flatMap pc).length = E.length * 6 := by
  induction E with
  | nil => rfl
  | cons a E ih => rw [List.flatMap_cons, List.length_append, ih, List.length_cons]; simp only [pc, List.length_cons, List.length_nil]; omega
/-- one pair more -/
theorem MJ.more {w X w9 wF : World} {b d : Nat} {ks : List ByteArray} {E : List (ByteArray × VT × Value × Value)} {u : Value} {key : ByteArray} {T : VT} {x y : Value} {l0 g cap : Nat} (h : MJ w X b d ks E u) (hk : key.size ≤ maxLen) (hX : HS X (fun q => l0 ≤ q ∧ q < X.heap.size) T x y) (hl : w.heap.size + 7 ≤ l0) (hu : ∀ g', u.ownBlock = some g' → g' < l0)
    (hown : w9.ownsRow (w.heap.size + 5) 52 6 (.slice (some ⟨g, 0, none⟩) (E.length + 1) cap) (E.length + 1) (E.flatMap pc ++ [.string ⟨#[]⟩, .int .i64 0, .int .i64 0, .string ⟨#[]⟩, .slice none 0 0, .slice none 0 0]))
    (hg : X.grownBy w9 u.ownBlock) (hat : u.ownBlock = some g ∨ g = X.heap.size)
    (hm : Mo6 w9 wF g (w.heap.size + 6) (E.length * 6) (.slice (some ⟨g, 0, none⟩) (E.length + 1) cap) (.string key) (.int .i64 T.kd) (.int .i64 T.nm) (.string T.st) x y) :
    MJ w wF b d ks (E ++ [(key, T, x, y)]) (.slice (some ⟨g, 0, none⟩) (E.length + 1) cap) ∧ (∀ q, q < w.heap.size → wF.heap[q]? = X.heap[q]?) ∧ wF.os = X.os ∧ wF.tape = X.tape ∧ wF.output = X.output ∧ X.heap.size ≤ wF.heap.size := by
  have s3 := hg.size
  have hbig := h.big
  have hul : ∀ g', u.ownBlock = some g' → w.heap.size + 5 ≤ g' ∧ g' < X.heap.size := fun g' hg' => h.own.lt g' hg'
  have hgI : ¬ g = w.heap.size + 6 := by
    rcases hat with h' | h'
    · intro e; exact h.nb (by rw [h', e])
    · omega
  have hgl : w.heap.size + 5 ≤ g := by
    rcases hat with h' | h'
    · exact (hul g h').1
    · omega
  have hgne : ∀ q, q < X.heap.size → ¬ u.ownBlock = some q → ¬ g = q := by
    intro q hq hn e
    subst e
    rcases hat with h' | h'
    · exact hn h'
    · omega
  have hbl : ∀ q, q < X.heap.size → ¬ u.ownBlock = some q → ¬ q = w.heap.size + 6 → wF.heap[q]? = X.heap[q]? := fun q hq hn h1 =>
    (hm.blk q (fun e => hgne q hq hn e.symm) h1).trans (hg.block q hq (fun e => hn e.symm))
  have hI9 : Row w9 (w.heap.size + 6) 25 1 := h.ri.onto (hg.block _ (by omega) (fun e => h.nb e.symm))
  have hno : ∀ q, q < w.heap.size + 5 → ¬ u.ownBlock = some q := fun q hq e => by have := hul q e; omega
  have hc : ∀ q, q < w.heap.size + 5 → wF.heap[q]? = X.heap[q]? := fun q hq => hbl q (by omega) (hno q hq) (by omega)
  have hsz := hm.size
  refine ⟨⟨?_, fun e => hgI (by simpa [Value.ownBlock] using e), fun e he => ?_, hm.cell _ hI9, hm.rowI _ hI9, (World.cell?_of_block (w := X) (hc w.heap.size (by omega))).trans h.cr, (World.cell?_of_block (w := X) (hc (w.heap.size + 1) (by omega))).trans h.cd, (World.cell?_of_block (w := X) (hc (w.heap.size + 4) (by omega))).trans h.cs, h.set.kept (hc _ (by omega)), h.zer.same (hc _ (by omega)), by omega⟩, fun q h1 => hc q (by omega), hm.os.trans hg.os, hm.tape.trans hg.tape, hm.output.trans hg.output, by omega⟩
  · have := hm.row _ _ _ _ _ _ hown
    rw [set_six flat_len6] at this
    rw [List.flatMap_append, List.length_append]
    simpa [pc] using this
  · rw [hsz]
    rcases List.mem_append.1 he with he | he
    · exact ⟨(h.prt e he).1, (h.prt e he).2.onto (fun q hq => hbl q hq.2.1 hq.2.2 (by omega)) (fun q hq => ⟨hq.1, by omega, fun e' => hgne q hq.2.1 hq.2.2 (by simpa [Value.ownBlock] using e')⟩)⟩
    · obtain rfl := List.mem_singleton.1 he
      have hno' : ∀ q, l0 ≤ q → ¬ u.ownBlock = some q := fun q hq e' => by have := hu q e'; omega
      exact ⟨hk, hX.onto (fun q hq => hbl q hq.2 (hno' q hq.1) (by omega)) (fun q hq => ⟨by omega, by omega, fun e' => hgne q hq.2 (hno' q hq.1) (by simpa [Value.ownBlock] using e')⟩)⟩
/-- what is read so far of a map -/
def AccP (w0 : World) (b d : Nat) (s : List (ByteArray × VT)) (n : Nat) (W : World) : Prop := szL (s.map (·.2)) ≤ n ∧ Strict (s.map (·.1)) ∧ (∀ c ∈ s.map (·.1), teI c = 0) ∧ ∃ E u, s.Perm (prs E) ∧ MJ w0 W b d (E.map (·.1)) E u
theorem accp_far {w0 : World} {b d : Nat} (hb : b < w0.heap.size) : ∀ s n W W', AccP w0 b d s n W → Own b W W' → AccP w0 b d s n W' := by
  rintro s n W W' ⟨h1, h0, h4, E, u, h2, h3⟩ ho
  exact ⟨h1, h0, h4, E, u, h2, h3.far ho hb⟩
/-- where the pair's region stands, ahead of the reading -/
structure Kb6 (w0 X : World) (b : Nat) (t : ByteArray) (v : Value) (ws : List Wd) (n d : Nat) (ks : List ByteArray) (E : List (ByteArray × VT × Value × Value)) (u : Value) : Prop where
  aj : Aj X b t v ws n
  lj : MJ w0 X b d ks E u
  ow : Own b w0 X
theorem Kb6.on {w0 X X' : World} {b : Nat} {t : ByteArray} {v : Value} {ws : List Wd} {n d : Nat} {ks : List ByteArray} {E : List (ByteArray × VT × Value × Value)} {u : Value} (h : Kb6 w0 X b t v ws n d ks E u) (hb : b < w0.heap.size) (hX : Below X.heap.size X X') : Kb6 w0 X' b t v ws n d ks E u :=
  ⟨⟨h.aj.jr.onto hX, h.aj.wm.onto hX, h.aj.ends, h.aj.fine, h.aj.len, h.aj.txt, h.aj.nod, h.aj.tsz, h.aj.gl.own (Own.of hX)⟩, h.lj.far (Own.of hX) hb, h.ow.trans (Own.of hX)⟩
/-- behind the reading -/
structure Ka6 (w0 X : World) (b : Nat) (t : ByteArray) (q : List Wd) (m d K l0 : Nat) (ks : List ByteArray) (E : List (ByteArray × VT × Value × Value)) (u : Value) (T : VT) (x y : Value) : Prop where
  jr : ∃ v', Jr X b t v' m ∧ Wm X b q v' ∧ blkV v' = some K
  gl : Gb b X
  lj : MJ w0 X b d ks E u
  ow : Own b w0 X
  hx : HS X (fun k => l0 ≤ k ∧ k < X.heap.size) T x y
  hl : w0.heap.size + 7 ≤ l0
  hu : ∀ g', u.ownBlock = some g' → g' < l0
  le : l0 ≤ X.heap.size
theorem Ka6.on {w0 X X' : World} {b : Nat} {t : ByteArray} {q : List Wd} {m d K l0 : Nat} {ks : List ByteArray} {E : List (ByteArray × VT × Value × Value)} {u : Value} {T : VT} {x y : Value} (h : Ka6 w0 X b t q m d K l0 ks E u T x y) (hb : b < w0.heap.size) (hX : Below X.heap.size X X') : Ka6 w0 X' b t q m d K l0 ks E u T x y := by
  obtain ⟨v', h1, h2, h3⟩ := h.jr
  have hs := hX.size
  exact ⟨⟨v', h1.onto hX, h2.onto hX, h3⟩, h.gl.own (Own.of hX), h.lj.far (Own.of hX) hb, h.ow.trans (Own.of hX), h.hx.onto (fun k hk => hX.block k hk.2) (fun k hk => ⟨hk.1, by omega⟩), h.hl, h.hu, by have := h.le; omega⟩
theorem kb6_read {w0 X X' : World} {b K : Nat} {t : ByteArray} {v : Value} {ws : List Wd} {n d : Nat} {ks : List ByteArray} {E : List (ByteArray × VT × Value × Value)} {u : Value} {T : VT} {m : Nat} {q : List Wd} {e : Ending} (h : Kb6 w0 X b t v ws n d ks E u) (hb : b < w0.heap.size) (hK : blkV v = some K) (hr : Rj b t v (.ok T m q) X e X') :
    ∃ o nn c o' n' c', e = .returned (vv T (.slice o nn c) (.slice o' n' c')) ∧ Ka6 w0 X' b t q m d K X.heap.size ks E u T (.slice o nn c) (.slice o' n' c') ∧ Own b X X' := by
  obtain ⟨x, y, v2, rfl, h1, h2, h3, h4, h5⟩ := hr
  obtain ⟨o, nn, c, o', n', c', rfl, rfl⟩ := hv_slices h4.hv
  exact ⟨o, nn, c, o', n', c', rfl, ⟨⟨v2, h1, h2, h3.trans hK⟩, h.aj.gl.own h5, h.lj.far h5 hb, h.ow.trans h5, h4, h.lj.big, fun g' hg' => (h.lj.own.lt g' hg').2, h5.size⟩, h5⟩
theorem find_any {key : ByteArray} : ∀ (s : List (ByteArray × VT)), (findK key (s.map (·.1)) (s.map (·.2))).isSome = s.any (fun e => decide (e.1.data.toList = key.data.toList))
  | [] => rfl
  | a :: s => by
    rw [List.map_cons, List.map_cons, findK, List.any_cons]
    by_cases h : a.1.data.toList = key.data.toList
    · rw [if_pos h, decide_eq_true h]; rfl
    · rw [if_neg h, decide_eq_false h, find_any s]; rfl
theorem any_perm {α : Type} {p : α → Bool} {s t : List α} (h : s.Perm t) : s.any p = t.any p := by
  rw [Bool.eq_iff_iff, List.any_eq_true, List.any_eq_true]
  exact ⟨fun ⟨x, hx, hp⟩ => ⟨x, h.mem_iff.1 hx, hp⟩, fun ⟨x, hx, hp⟩ => ⟨x, h.mem_iff.2 hx, hp⟩⟩
theorem find_seen {s : List (ByteArray × VT)} {E : List (ByteArray × VT × Value × Value)} {l : List UInt8} (h : s.Perm (prs E)) : (findK (mkS l) (s.map (·.1)) (s.map (·.2))).isSome = (E.map (·.1)).any (fun k => decide (k.data.toList = l)) := by
  rw [find_any, any_perm h, mkS_list]
  unfold prs
  rw [List.any_map, List.any_map]
  rfl
/-- the end of it -/
theorem ka6_end {w0 X w9 wF : World} {b : Nat} {t : ByteArray} {q : List Wd} {m d K l0 g cap : Nat} {E : List (ByteArray × VT × Value × Value)} {u : Value} {key : ByteArray} {T : VT} {x y : Value} {s : List (ByteArray × VT)} (h : Ka6 w0 X b t q m d K l0 (E.map (·.1) ++ [key]) E u T x y) (hb : b < w0.heap.size) (hK : K < w0.heap.size)
    (he : EndW q) (hfi : ∀ z ∈ q, Fine z) (hle : q.length ≤ 100000) (htx : ∀ z ∈ q, z.tx.length ≤ 65536) (hmd : m ≤ 4096) (hts : t.size ≤ 1000000) (hE : s.Perm (prs E)) (hst : Strict (s.map (·.1))) (hte : ∀ c ∈ s.map (·.1), teI c = 0) (hkt : teI key = 0) (hks : key.size ≤ maxLen) (hnew : (E.map (·.1)).any (fun k => decide (k.data.toList = key.data.toList)) = false) (hsz : szL (s.map (·.2)) + szT T ≤ m)
    (hown : w9.ownsRow (w0.heap.size + 5) 52 6 (.slice (some ⟨g, 0, none⟩) (E.length + 1) cap) (E.length + 1) (E.flatMap pc ++ [.string ⟨#[]⟩, .int .i64 0, .int .i64 0, .string ⟨#[]⟩, .slice none 0 0, .slice none 0 0]))
    (hg : X.grownBy w9 u.ownBlock) (hat : u.ownBlock = some g ∨ g = X.heap.size)
    (hm : Mo6 w9 wF g (w0.heap.size + 6) (E.length * 6) (.slice (some ⟨g, 0, none⟩) (E.length + 1) cap) (.string key) (.int .i64 T.kd) (.int .i64 T.nm) (.string T.st) x y) :
    ∃ v', Pv w0 b t K (AccP w0 b d) (insP key T false s) m q v' wF := by
  obtain ⟨v', j1, j2, j3⟩ := h.jr
  obtain ⟨k1, hbl, k3, k4, k5, k6⟩ := h.lj.more hks h.hx h.hl h.hu hown hg hat hm
  have hOw : Own b w0 wF := ⟨k3.trans h.ow.os, k4.trans h.ow.tape, k5.trans h.ow.output, by have := h.ow.size; omega, fun r hr hn => (hbl r hr).trans (h.ow.block r hr hn)⟩
  obtain ⟨uu, g1, g2, g3⟩ := h.gl
  have hgb : Gb b wF := ⟨uu, g1, g2, ⟨k3.trans g3.os, k4.trans g3.tape, k5.trans g3.output, by have := g3.size; omega, fun r hr => (hbl r (by omega)).trans (g3.block r hr)⟩⟩
  have hnk : ∀ a ∈ s, ¬ a.1.data.toList = key.data.toList := by
    intro a ha hk
    have h1 : s.any (fun e => decide (e.1.data.toList = key.data.toList)) = true := List.any_eq_true.2 ⟨a, ha, decide_eq_true hk⟩
    rw [any_perm hE] at h1
    unfold prs at h1
    rw [List.any_map] at h1
    rw [List.any_map] at hnew
    exact absurd h1 (by rw [show ((fun e : ByteArray × VT => decide (e.1.data.toList = key.data.toList)) ∘ fun a : ByteArray × VT × Value × Value => (a.1, a.2.1)) = ((fun k : ByteArray => decide (k.data.toList = key.data.toList)) ∘ fun a : ByteArray × VT × Value × Value => a.1) from rfl, hnew]; decide)
  obtain ⟨n1, n2⟩ := ins_new key T s hst hnk
  refine ⟨v', ⟨j1.same (hbl b hb), j2.stay j3 (hbl K hK), he, hfi, hle, htx, hmd, hts, hgb⟩, j3, ⟨?_, n1, fun c hc => ?_, E ++ [(key, T, x, y)], .slice (some ⟨g, 0, none⟩) (E.length + 1) cap, ?_, ?_⟩, hOw⟩
  · have := szL_map_ins key T false s
    simp only [Bool.false_eq_true, if_false] at this
    omega
  · obtain ⟨a, ha, rfl⟩ := List.mem_map.1 hc
    rcases List.mem_cons.1 (n2.mem_iff.1 ha) with rfl | h'
    · exact hkt
    · exact hte _ (List.mem_map.2 ⟨a, h', rfl⟩)
  · have : prs (E ++ [(key, T, x, y)]) = prs E ++ [(key, T)] := by unfold prs; rw [List.map_append]; rfl
    rw [this]
    exact n2.trans ((List.Perm.cons _ hE).trans (List.perm_append_singleton (key, T) (prs E)).symm)
  · rw [List.map_append]
    exact k1
/-- what the stores behind the append find -/
theorem ka6_row {w0 X w9 : World} {b : Nat} {t : ByteArray} {q : List Wd} {m d K l0 g cap : Nat} {ks : List ByteArray} {E : List (ByteArray × VT × Value × Value)} {u : Value} {T : VT} {x y : Value} (h : Ka6 w0 X b t q m d K l0 ks E u T x y)
    (hown : w9.ownsRow (w0.heap.size + 5) 52 6 (.slice (some ⟨g, 0, none⟩) (E.length + 1) cap) (E.length + 1) (E.flatMap pc ++ [.string ⟨#[]⟩, .int .i64 0, .int .i64 0, .string ⟨#[]⟩, .slice none 0 0, .slice none 0 0]))
    (hg : X.grownBy w9 u.ownBlock) (hat : u.ownBlock = some g ∨ g = X.heap.size) :
    w9.cell? ⟨w0.heap.size, 0, none⟩ = some (.pointer (some ⟨b, 0, none⟩)) ∧ w9.cell? ⟨w0.heap.size + 1, 0, none⟩ = some (.int .i64 (d : Int)) ∧ (w0.heap.size ≠ g ∧ w0.heap.size + 1 ≠ g ∧ ¬ g = w0.heap.size + 6) ∧
    w9.cell? ⟨g, E.length * 6, none⟩ = some (.string ⟨#[]⟩) ∧ w9.cell? ⟨g, E.length * 6 + 1, none⟩ = some (.int .i64 0) ∧ w9.cell? ⟨g, E.length * 6 + 2, none⟩ = some (.int .i64 0) ∧ w9.cell? ⟨g, E.length * 6 + 3, none⟩ = some (.string ⟨#[]⟩) ∧ w9.cell? ⟨g, E.length * 6 + 4, none⟩ = some (.slice none 0 0) ∧ w9.cell? ⟨g, E.length * 6 + 5, none⟩ = some (.slice none 0 0) ∧
    (∀ o, w9.frozen? ⟨g, o, none⟩ = false) ∧ w9.cell? ⟨w0.heap.size + 6, 0, none⟩ = some u ∧ (∀ o, w9.frozen? ⟨w0.heap.size + 6, o, none⟩ = false) := by
  have hul : ∀ g', u.ownBlock = some g' → w0.heap.size + 5 ≤ g' ∧ g' < X.heap.size := fun g' hg' => h.lj.own.lt g' hg'
  have hbig := h.lj.big
  have hgI : ¬ g = w0.heap.size + 6 := by
    rcases hat with h' | h'
    · intro e; exact h.lj.nb (by rw [h', e])
    · omega
  have hgl : w0.heap.size + 5 ≤ g := by
    rcases hat with h' | h'
    · exact (hul g h').1
    · omega
  have hbl : ∀ r, r < w0.heap.size + 5 → w9.heap[r]? = X.heap[r]? := fun r hr => hg.block r (by omega) (fun e => by have := hul r e.symm; omega)
  have hI : w9.heap[w0.heap.size + 6]? = X.heap[w0.heap.size + 6]? := hg.block _ (by omega) (fun e => h.lj.nb e.symm)
  have hc : ∀ j u', [Value.string ⟨#[]⟩, .int .i64 0, .int .i64 0, .string ⟨#[]⟩, .slice none 0 0, .slice none 0 0][j]? = some u' → w9.cell? ⟨g, E.length * 6 + j, none⟩ = some u' := fun j u' hj => by
    have hj5 : j < 6 := lt_of_some hj
    rw [hown.cellAt (E.length * 6 + j) (by omega), List.getElem?_append_right (by rw [flat_len6]; omega), flat_len6, Nat.add_sub_cancel_left]
    exact hj
  refine ⟨(World.cell?_of_block (w := X) (hbl w0.heap.size (by omega))).trans h.lj.cr, (World.cell?_of_block (w := X) (hbl (w0.heap.size + 1) (by omega))).trans h.lj.cd, ⟨by omega, by omega, hgI⟩, hc 0 _ rfl, hc 1 _ rfl, hc 2 _ rfl, hc 3 _ rfl, hc 4 _ rfl, hc 5 _ rfl, fun o => ?_, (World.cell?_of_block (w := X) hI).trans h.lj.ci, fun o => (World.frozen?_of_block (a := ⟨w0.heap.size + 6, o, none⟩) hI).trans (h.lj.ri.frozen o)⟩
  rcases hown.2 with ⟨h', _⟩ | ⟨g', cap', cur, h', hb, hgc, -⟩
  · simp at h'
  · simp only [Value.slice.injEq, Option.some.injEq, Addr.mk.injEq, and_true, true_and] at h'
    obtain ⟨rfl, rfl⟩ := h'
    simp [World.frozen?, hgc]
theorem mo6_two {w0 w9 wF : World} {b d g o : Nat} {v x0 x1 x2 x3 x4 x5 : Value} (hne : w0.heap.size ≠ g ∧ w0.heap.size + 1 ≠ g ∧ ¬ g = w0.heap.size + 6) (h : w9.cell? ⟨w0.heap.size, 0, none⟩ = some (.pointer (some ⟨b, 0, none⟩)) ∧ w9.cell? ⟨w0.heap.size + 1, 0, none⟩ = some (.int .i64 (d : Int))) (hm : Mo6 w9 wF g (w0.heap.size + 6) o v x0 x1 x2 x3 x4 x5) :
    wF.cell? ⟨w0.heap.size, 0, none⟩ = some (.pointer (some ⟨b, 0, none⟩)) ∧ wF.cell? ⟨w0.heap.size + 1, 0, none⟩ = some (.int .i64 (d : Int)) :=
  ⟨(World.cell?_of_block (w := w9) (hm.blk _ hne.1 (by show w0.heap.size ≠ w0.heap.size + 6; omega))).trans h.1, (World.cell?_of_block (w := w9) (hm.blk _ hne.2.1 (by show w0.heap.size + 1 ≠ w0.heap.size + 6; omega))).trans h.2⟩
end Go.Proofs.YtkhjahpkbjafaaaGreatDoor
