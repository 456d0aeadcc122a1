import Derived.Shelf.SlicesE.Clone
import Derived.Test.YtjcejjejlekelaaGreatDoorPathDoc
import Derived.Test.YtjcejjejlekelaaGreatDoorPathTree
/- The walk through a tree that tells all paths: its mathematics, and what it holds in memory. -/
/- path.All, walked. -/
/- path.All, walked: a node visited, and all. -/
namespace Go.Proofs.YtjcejjejlekelaaGreatDoor
open Go.RowKit

/-- all paths of a tree, behind a path -/
def plS (i : Nat) : PStep := ⟨⟨#[]⟩, i, true⟩
def kyS (c : ByteArray) : PStep := ⟨c, 0, false⟩
mutual
def allT : VT → List PStep → List (List PStep)
  | .mk k _ _ L K V, p => p :: (if k = 5 then allL L 0 p else if k = 6 then allM V K p else [])
def allL : List VT → Nat → List PStep → List (List PStep)
  | [], _, _ => []
  | t :: r, i, p => allT t (p ++ [plS i]) ++ allL r (i + 1) p
def allM : List VT → List ByteArray → List PStep → List (List PStep)
  | [], _, _ => []
  | t :: r, K, p => allT t (p ++ [kyS (K.headD ⟨#[]⟩)]) ++ allM r K.tail p
end
theorem allL_snoc (t : VT) (p : List PStep) : ∀ (A : List VT) (i : Nat), allL (A ++ [t]) i p = allL A i p ++ allT t (p ++ [plS (i + A.length)])
  | [], i => by simp [allL]
  | a :: A, i => by
    show allT a _ ++ allL (A ++ [t]) (i + 1) p = _
    rw [allL_snoc t p A (i + 1)]
    show _ = (allT a _ ++ allL A (i + 1) p) ++ _
    rw [List.append_assoc, List.length_cons, show i + 1 + A.length = i + (A.length + 1) by omega]
theorem allM_snoc (t : VT) (p : List PStep) : ∀ (A : List VT) (K : List ByteArray) (c : ByteArray), K[A.length]? = some c → allM (A ++ [t]) K p = allM A K p ++ allT t (p ++ [kyS c])
  | [], K, c, h => by
    cases K with
    | nil => simp at h
    | cons d K => simp at h; subst h; simp [allM]
  | a :: A, K, c, h => by
    show allT a _ ++ allM (A ++ [t]) K.tail p = _
    rw [allM_snoc t p A K.tail c (by cases K with | nil => simp at h | cons d K => simpa using h)]
    show _ = (allT a _ ++ allM A K.tail p) ++ _
    rw [List.append_assoc]
mutual
theorem allT_len : ∀ (T : VT) (p : List PStep), (allT T p).length ≤ szT T
  | .mk k _ _ L K V, p => by
    have h1 := allL_len L 0 p
    have h2 := allM_len V K p
    simp only [allT, szT, List.length_cons]
    split
    · omega
    · split
      · omega
      · simp only [List.length_nil]; omega
theorem allL_len : ∀ (L : List VT) (i : Nat) (p : List PStep), (allL L i p).length ≤ szL L
  | [], _, _ => Nat.zero_le _
  | t :: r, i, p => by
    have h1 := allT_len t (p ++ [plS i])
    have h2 := allL_len r (i + 1) p
    simp only [allL, szL, List.length_append]; omega
theorem allM_len : ∀ (V : List VT) (K : List ByteArray) (p : List PStep), (allM V K p).length ≤ szL V
  | [], _, _ => Nat.zero_le _
  | t :: r, K, p => by
    have h1 := allT_len t (p ++ [kyS (K.headD ⟨#[]⟩)])
    have h2 := allM_len r K.tail p
    simp only [allM, szL, List.length_append]; omega
end
theorem Tryz.infoPst : (Tryz.prog.info? 36).map (fun i => (i.zero, i.size, i.bytes)) = some (some (.agg #[.string ⟨#[]⟩, .int .i64 0, .bool false]), 3, 32) := by kernel_rfl
theorem Tryz.infoPath : (Tryz.prog.info? 23).map (fun i => (i.zero, i.size, i.bytes)) = some (some (.slice none 0 0), 1, 24) := by kernel_rfl
def renC : Go.Shelf.Ren := ⟨fun | 41 => 82 | n => n, fun | 22 => 23 | 23 => 36 | 4 => 4 | n => n, fun | n => n⟩
theorem laysCl : Go.Proofs.SlLaysE0.n41 Tryz.prog renC := {
  mixed := by kernel_rfl
  f41 := ⟨Tryz.f82.name, by decide, Tryz.func82.trans (congrArg some (by kernel_rfl))⟩
  t4 := Tryz.underlying4
  a4 := Tryz.isAgg4
  z4 := Tryz.sizeOf4
  v4 := Tryz.zeroValue4
  t22 := Tryz.underlying23
  a22 := Tryz.isAgg23
  z22 := Tryz.sizeOf23
  v22 := Tryz.zeroValue23 }
theorem flat_one (p : List PStep) : ∀ u ∈ p.flatMap sc, u.oneCell' = true := by
  intro u hu
  obtain ⟨s, -, h⟩ := List.mem_flatMap.1 hu
  exact sc_one s u h
/-- a path copied -/
theorem pclone_any (p : List PStep) (nv : Value) (B : Nat) (w : World) (h : w.ownsRow B 36 3 nv p.length (p.flatMap sc)) (hl : p.length ≤ 4000000) :
    Calls Tryz.prog 82 #[nv] w fun e w' => ∃ u, e = .returned u ∧ w'.ownsRow w.heap.size 36 3 u p.length (p.flatMap sc) ∧ Below w.heap.size w w' := by
  obtain ⟨i0, hi0, hz0, hz1, hz2⟩ := info_parts Tryz.infoPst
  have hc := h
  rcases hc with ⟨hlen, ⟨rfl, h0⟩ | ⟨g, cap, cur, rfl, -, -, hn, hcm, -, -⟩⟩
  · have : p = [] := List.eq_nil_of_length_eq_zero h0
    subst this
    refine Calls.mono (AnyE.slices_Clone_nil laysCl 0 0 w) ?_
    rintro e w' ⟨rfl, rfl⟩
    exact ⟨_, rfl, World.ownsRow_nil _ _ _ _, Below.refl _ _⟩
  · refine Calls.mono (AnyE.slices_Clone laysCl i0 _ 3 32 hi0 hz0 hz1 hz2 rfl (by decide) Tryz.sizeOf36 g 0 p.length cap (p.flatMap sc) w hlen (by unfold maxLen; omega) (by omega) (fun j u hu => by
      rw [Nat.zero_add, h.cellAt j (by have := lt_of_some hu; omega)]; exact hu) (flat_one p)) ?_
    rintro e w' ⟨v', rfl, h1, -, h2⟩
    exact ⟨v', rfl, h1, h2⟩
/-- rows of different types lie apart -/
theorem own_ne {w : World} {B B' : Nat} {e e' : TypeId} {s s' n n' : Nat} {v v' : Value} {xs xs' : List Value} (h : w.ownsRow B e s v n xs) (k : w.ownsRow B' e' s' v' n' xs') (hne : e ≠ e') : v.ownBlock = none ∨ v.ownBlock ≠ v'.ownBlock := by
  rcases h.2 with ⟨rfl, -⟩ | ⟨g, cap, cur, rfl, -, hg, -⟩
  · exact .inl rfl
  · refine .inr fun hh => ?_
    rcases k.2 with ⟨rfl, -⟩ | ⟨g', cap', cur', rfl, -, hg', -⟩
    · cases hh
    · have : g = g' := by simpa [Value.ownBlock] using hh
      subst this
      rw [hg] at hg'
      injection hg' with h1
      injection h1 with _ h2
      exact hne h2
theorem own_off {w : World} {B : Nat} {e ty : TypeId} {s n b : Nat} {v : Value} {xs : List Value} {c : Array Value} {fz : Nat × Nat} (h : w.ownsRow B e s v n xs) (k : w.heap[b]? = some (.cells c ty fz)) (hne : e ≠ ty) : v.ownBlock = none ∨ v.ownBlock ≠ some b := by
  rcases h.2 with ⟨rfl, -⟩ | ⟨g, cap, cur, rfl, -, hg, -⟩
  · exact .inl rfl
  · refine .inr fun hh => ?_
    have : g = b := by simpa [Value.ownBlock] using hh
    subst this
    rw [hg] at k
    injection k with h1
    injection h1 with _ h2
    exact hne h2
theorem own_base {w : World} {B B' : Nat} {e : TypeId} {s n : Nat} {v : Value} {xs : List Value} (h : w.ownsRow B e s v n xs) (hB : B' ≤ B) : w.ownsRow B' e s v n xs := by
  refine ⟨h.1, ?_⟩
  rcases h.2 with hn | ⟨g, cap, cur, rfl, hb, rest⟩
  · exact .inl hn
  · exact .inr ⟨g, cap, cur, rfl, Nat.le_trans hB hb, rest⟩
theorem own_neq {v u : Value} {w : World} {B : Nat} {e : TypeId} {s n : Nat} {xs : List Value} (h : w.ownsRow B e s v n xs) (g : Nat) (hg : u.ownBlock = some g) (hB : g < B ∨ w.heap.size ≤ g) : v.ownBlock = none ∨ v.ownBlock ≠ u.ownBlock := by
  cases hv : v.ownBlock with
  | none => exact .inl rfl
  | some k =>
    have := h.lt k hv
    refine .inr ?_
    rw [hg]
    intro hh
    injection hh with hh
    omega
theorem set_grownW (w : World) (b o : Nat) (u : Value) : w.grownBy (w.setCell ⟨b, o, none⟩ u) (some b) := ⟨rfl, rfl, rfl, by simp, fun k _ hk => Below.heap_setCell _ _ _ _ (fun e => hk (by rw [e]))⟩
theorem off_ne {o : Option Nat} {b : Nat} (h : o = none ∨ o ≠ some b) : some b ≠ o := by
  rintro rfl
  rcases h with h | h
  · cases h
  · exact h rfl
theorem sc_len : ∀ p : List PStep, (p.flatMap sc).length = p.length * 3
  | [] => rfl
  | a :: r => by
    have := sc_len r
    rw [List.flatMap_cons, List.length_append, this, List.length_cons]
    show 3 + _ = _
    omega
/-- the walk's box: where it is now, and the paths that it came by -/
def OwnS (W w : World) (v : Value) (p : List PStep) : Prop := w.ownsRow W.heap.size 36 3 v p.length (p.flatMap sc)
def OwnP (W w : World) (v : Value) (E : List (List PStep × Value)) : Prop := w.ownsRow W.heap.size 23 1 v E.length (E.map (·.2))
structure Wk (W : World) (b : Nat) (nv pv : Value) (now : List PStep) (E : List (List PStep × Value)) (w : World) : Prop where
  bel : Below W.heap.size W w
  lo : W.heap.size ≤ b
  box : w.heap[b]? = some (.cells #[nv, pv] 104 (0, 0))
  ns : OwnS W w nv now
  ps : OwnP W w pv E
  es : ∀ e ∈ E, OwnS W w e.2 e.1 ∧ (e.2.ownBlock = none ∨ e.2.ownBlock ≠ nv.ownBlock)
theorem Wk.onto {W : World} {b : Nat} {nv pv : Value} {now : List PStep} {E : List (List PStep × Value)} {w w' : World} (h : Wk W b nv pv now E w) (hb : Below w.heap.size w w') : Wk W b nv pv now E w' :=
  ⟨vonto h.bel hb, h.lo, by rw [hb.block b (Array.getElem?_eq_some_iff.1 h.box).1]; exact h.box, ownsRow_below h.ns hb, ownsRow_below h.ps hb, fun e he => ⟨ownsRow_below (h.es e he).1 hb, (h.es e he).2⟩⟩
theorem Wk.lt {W : World} {b : Nat} {nv pv : Value} {now : List PStep} {E : List (List PStep × Value)} {w : World} (h : Wk W b nv pv now E w) : b < w.heap.size := (Array.getElem?_eq_some_iff.1 h.box).1
theorem box_set {w : World} {b : Nat} {c : Array Value} {ty : TypeId} {fz : Nat × Nat} (h : w.heap[b]? = some (.cells c ty fz)) (o : Nat) (u : Value) : (w.setCell ⟨b, o, none⟩ u).heap[b]? = some (.cells (c.setIfInBounds o u) ty fz) := by
  simp [World.setCell, Array.getElem?_modify, h]
/-- a path more -/
theorem Wk.more {W : World} {b : Nat} {nv pv : Value} {now : List PStep} {E : List (List PStep × Value)} {w w3 : World} {u pv' : Value} {p : List PStep} (h : Wk W b nv pv now E w) (hu : OwnS W w u p) (hun : u.ownBlock = none ∨ u.ownBlock ≠ nv.ownBlock)
    (h3 : w3.ownsRow W.heap.size 23 1 pv' (E.length + 1) (E.map (·.2) ++ [u])) (hg : w.grownBy w3 pv.ownBlock) : Wk W b nv pv' now (E ++ [(p, u)]) (w3.setCell ⟨b, 1, none⟩ pv') := by
  have hne1 := own_ne h.ns h.ps (by decide)
  have hbne : pv.ownBlock = none ∨ pv.ownBlock ≠ some b := own_off h.ps h.box (by decide)
  have hbx : w3.heap[b]? = some (.cells #[nv, pv] 104 (0, 0)) := by
    rw [hg.block b h.lt (off_ne hbne)]
    exact h.box
  have keep : ∀ {v : Value} {q : List PStep}, OwnS W w v q → OwnS W (w3.setCell ⟨b, 1, none⟩ pv') v q := fun {v q} hv => by
    have h1 : OwnS W w3 v q := hv.kept hg (own_ne hv h.ps (by decide))
    exact h1.kept (set_grownW w3 b 1 pv') (own_off h1 hbx (by decide))
  refine ⟨?_, h.lo, by rw [box_set hbx]; rfl, keep h.ns, ?_, ?_⟩
  · exact vset_bel (h.bel.grown hg (by have := h.bel.size; omega) (fun q hq => (h.ps.lt q hq).1)) h.lo
  · have := h3.kept (set_grownW w3 b 1 pv') (own_off h3 hbx (by decide))
    simpa [OwnP] using this
  · intro e he
    rcases List.mem_append.1 he with he | he
    · exact ⟨keep (h.es e he).1, (h.es e he).2⟩
    · simp at he; subst he; exact ⟨keep hu, hun⟩
/-- a step down -/
theorem Wk.down {W : World} {b : Nat} {nv pv : Value} {now : List PStep} {E : List (List PStep × Value)} {w w3 : World} {g cap : Nat} {s : PStep} (h : Wk W b nv pv now E w)
    (h3 : w3.ownsRow W.heap.size 36 3 (.slice (some ⟨g, 0, none⟩) (now.length + 1) cap) (now.length + 1) (now.flatMap sc ++ sc s)) (hg : w.grownBy w3 nv.ownBlock) (hw : nv.ownBlock = some g ∨ g = w.heap.size) :
    Wk W b (.slice (some ⟨g, 0, none⟩) (now.length + 1) cap) pv (now ++ [s]) E (w3.setCell ⟨b, 0, none⟩ (.slice (some ⟨g, 0, none⟩) (now.length + 1) cap)) := by
  have hbne : nv.ownBlock = none ∨ nv.ownBlock ≠ some b := own_off h.ns h.box (by decide)
  have hbx : w3.heap[b]? = some (.cells #[nv, pv] 104 (0, 0)) := by
    rw [hg.block b h.lt (off_ne hbne)]
    exact h.box
  refine ⟨?_, h.lo, by rw [box_set hbx]; rfl, ?_, ?_, ?_⟩
  · exact vset_bel (h.bel.grown hg (by have := h.bel.size; omega) (fun q hq => (h.ns.lt q hq).1)) h.lo
  · have := h3.kept (set_grownW w3 b 0 (.slice (some ⟨g, 0, none⟩) (now.length + 1) cap)) (own_off h3 hbx (by decide))
    simpa [OwnS] using this
  · have h1 := h.ps.kept hg (own_ne h.ps h.ns (by decide))
    exact h1.kept (set_grownW w3 b 0 _) (own_off h1 hbx (by decide))
  · intro e he
    obtain ⟨k1, k2⟩ := h.es e he
    have k3 := k1.kept hg k2
    refine ⟨k3.kept (set_grownW w3 b 0 _) (own_off k3 hbx (by decide)), ?_⟩
    rcases hw with hw | hw
    · rw [hw] at k2; exact k2
    · exact own_neq k1 g rfl (.inr (by omega))
/-- and up again -/
theorem Wk.up {W : World} {b g cap : Nat} {pv : Value} {now : List PStep} {s : PStep} {E : List (List PStep × Value)} {w : World} (h : Wk W b (.slice (some ⟨g, 0, none⟩) (now.length + 1) cap) pv (now ++ [s]) E w) :
    Wk W b (.slice (some ⟨g, 0, none⟩) now.length cap) pv now E (w.setCell ⟨b, 0, none⟩ (.slice (some ⟨g, 0, none⟩) now.length cap)) := by
  have hns : OwnS W w (.slice (some ⟨g, 0, none⟩) now.length cap) now := by
    rcases h.ns.2 with ⟨e, -⟩ | ⟨g', cap', cur, e, hb, hgg, h1, h2, h3, h4⟩
    · cases e
    · injection e with e1 e2 e3
      injection e1 with e1
      injection e1 with e1
      subst e1 e3
      simp only [List.length_append, List.length_singleton] at h1 h4
      refine ⟨sc_len now, .inr ⟨g, cap, cur, rfl, hb, hgg, by omega, h2, h3, ?_⟩⟩
      have := congrArg (List.take (now.length * 3)) h4
      rw [List.take_take, Nat.min_eq_left (by omega), List.flatMap_append, ← sc_len now, List.take_left] at this
      rw [← sc_len now]
      exact this
  have hbx := h.box
  refine ⟨vset_bel h.bel h.lo, h.lo, by rw [box_set hbx]; rfl, hns.kept (set_grownW w b 0 _) (own_off hns hbx (by decide)), h.ps.kept (set_grownW w b 0 _) (own_off h.ps hbx (by decide)), fun e he => ?_⟩
  obtain ⟨k1, k2⟩ := h.es e he
  exact ⟨k1.kept (set_grownW w b 0 _) (own_off k1 hbx (by decide)), k2⟩
theorem wk_new (w : World) (o : Obj) : Wk w (w.heap.size + 1) (.slice none 0 0) (.slice none 0 0) [] [] ((w.alloc o).alloc (.cells #[.slice none 0 0, .slice none 0 0] 104)) := by
  refine ⟨valloc_bel (valloc_bel (Below.refl _ _) _) _, by omega, ?_, World.ownsRow_nil _ _ _ _, World.ownsRow_nil _ _ _ _, fun e he => by simp at he⟩
  rw [← World.size_alloc w o]
  simp only [World.alloc, Array.getElem?_push_size]
end Go.Proofs.YtjcejjejlekelaaGreatDoor
namespace Go.Proofs.YtjcejjejlekelaaGreatDoor
open Go.RowKit

/-- a node visited -/
def VisitOk (W : World) (T : VT) : Prop := ∀ (x y : Value) (b : Nat) (nv pv' : Value) (now : List PStep) (E : List (List PStep × Value)) (w : World), HV W T x y → Wk W b nv pv' now E w → now.length + szT T ≤ 2000000 → E.length + szT T ≤ 2000000 →
  Calls Tryz.prog 58 #[.pointer (some ⟨b, 0, none⟩), vv T x y] w fun e w' => e = .returned (.tuple #[]) ∧ ∃ nv2 pv2 E2, Wk W b nv2 pv2 now E2 w' ∧ E2.map (·.1) = E.map (·.1) ++ allT T now
theorem Wk.cells {W : World} {b : Nat} {nv pv' : Value} {now : List PStep} {E : List (List PStep × Value)} {w : World} (h : Wk W b nv pv' now E w) : w.cell? ⟨b, 0, none⟩ = some nv ∧ w.cell? ⟨b, 1, none⟩ = some pv' ∧ ∀ o, w.frozen? ⟨b, o, none⟩ = false := by
  have hb := h.box
  refine ⟨?_, ?_, fun o => ?_⟩
  · rw [cell_of_row w b 0 _ _ _ hb]; rfl
  · rw [cell_of_row w b 1 _ _ _ hb]; rfl
  · simp [World.frozen?, hb]
theorem Wk.slices {W : World} {b : Nat} {nv pv' : Value} {now : List PStep} {E : List (List PStep × Value)} {w : World} (h : Wk W b nv pv' now E w) : (∃ o c, nv = .slice o now.length c) ∧ ∃ o c, pv' = .slice o E.length c := by
  constructor
  · rcases h.ns.2 with ⟨rfl, e⟩ | ⟨g, cap, cur, rfl, -⟩
    · exact ⟨none, 0, by rw [e]⟩
    · exact ⟨_, _, rfl⟩
  · rcases h.ps.2 with ⟨rfl, e⟩ | ⟨g, cap, cur, rfl, -⟩
    · exact ⟨none, 0, by rw [e]⟩
    · exact ⟨_, _, rfl⟩
set_option maxRecDepth 100000 in
set_option maxHeartbeats 1000000 in
theorem enter_any (W : World) (T : VT) (hV : VisitOk W T) (s : PStep) (x y : Value) (b : Nat) (nv pv' : Value) (now : List PStep) (E : List (List PStep × Value)) (w : World) (hT : HV W T x y) (hW : Wk W b nv pv' now E w) (hn : now.length + 1 + szT T ≤ 2000000) (hE : E.length + szT T ≤ 2000000) :
    Calls Tryz.prog 83 #[.pointer (some ⟨b, 0, none⟩), pv s, vv T x y] w fun e w' => e = .returned (.tuple #[]) ∧ ∃ nv2 pv2 E2, Wk W b nv2 pv2 now E2 w' ∧ E2.map (·.1) = E.map (·.1) ++ allT T (now ++ [s]) := by
  obtain ⟨o1, n1, c1, o2, n2, c2, rfl, rfl⟩ := hv_slices hT
  obtain ⟨i1, hi', hz0', hz1', hz2'⟩ := info_parts Tryz.infoPst
  obtain ⟨⟨on, cn, rfl⟩, ⟨op, cp, rfl⟩⟩ := hW.slices
  have HV0 := hid hV
  have HT := hid hT
  have HW := hid (fun X (hX : Below w.heap.size w X) => hW.onto hX)
  have hlt := hW.lt
  obtain ⟨key, at_, pl⟩ := s
  have hs1 : w.heap.size ≠ b := by omega
  clear hV hT hW
  simp only [vv, pv]
  go_enter Tryz.func83, Tryz.ntmps83
  go_wp2_with fail
  have hb0 : Below w.heap.size w ((w.alloc (.cells #[.string key, .int .i64 at_, .bool pl] 36)).alloc (.cells #[.int .i64 T.kd, .int .i64 T.nm, .string T.st, .slice o1 n1 c1, .slice o2 n2 c2] 31)) := valloc_bel (valloc_bel (Below.refl _ _) _) _
  have HK : Hid (∀ X, Wk W b (.slice on now.length cn) (.slice op E.length cp) now E X → Below (w.heap.size + 1) ((w.alloc (.cells #[.string key, .int .i64 at_, .bool pl] 36))) X → X.cell? ⟨b, 0, none⟩ = some (.slice on now.length cn) ∧ X.cell? ⟨w.heap.size, 0, none⟩ = some (.string key) ∧ X.cell? ⟨w.heap.size, 1, none⟩ = some (.int .i64 at_) ∧ X.cell? ⟨w.heap.size, 2, none⟩ = some (.bool pl)) := fun X h1 h2 => ⟨h1.cells.1, by rw [h2.cell (by simp)]; simp, by rw [h2.cell (by simp)]; simp, by rw [h2.cell (by simp)]; simp⟩
  have hb1 : Below (w.heap.size + 1) (w.alloc (.cells #[.string key, .int .i64 at_, .bool pl] 36)) ((w.alloc (.cells #[.string key, .int .i64 at_, .bool pl] 36)).alloc (.cells #[.int .i64 T.kd, .int .i64 T.nm, .string T.st, .slice o1 n1 c1, .slice o2 n2 c2] 31)) := (Below.refl _ _).alloc (by simp) _
  have hwk := HW.out _ hb0
  have hns := hwk.ns
  have hS0 := HK.out _ hwk hb1
  generalize hw0 : ((w.alloc (.cells #[.string key, .int .i64 at_, .bool pl] 36)).alloc (.cells #[.int .i64 T.kd, .int .i64 T.nm, .string T.st, .slice o1 n1 c1, .slice o2 n2 c2] 31)) = w0 at *
  have hsz0 : w0.heap.size = w.heap.size + 2 := by rw [← hw0]; simp
  refine wp_region_ends2 (S := fun X => X.cell? ⟨b, 0, none⟩ = some (.slice on now.length cn) ∧ X.cell? ⟨w.heap.size, 0, none⟩ = some (.string key) ∧ X.cell? ⟨w.heap.size, 1, none⟩ = some (.int .i64 at_) ∧ X.cell? ⟨w.heap.size, 2, none⟩ = some (.bool pl)) (by simp) (by kernel_rfl) (by kernel_rfl) (by kernel_rfl) (by kernel_rfl) (by kernel_rfl) (by kernel_rfl) ?_
  simp only [List.dropLast, List.getLast_cons_cons, List.getLast_singleton, List.length_cons, List.length_nil]
  replace hS0 : w0.drew.cell? ⟨b, 0, none⟩ = some (.slice on now.length cn) ∧ w0.drew.cell? ⟨w.heap.size, 0, none⟩ = some (.string key) ∧ w0.drew.cell? ⟨w.heap.size, 1, none⟩ = some (.int .i64 at_) ∧ w0.drew.cell? ⟨w.heap.size, 2, none⟩ = some (.bool pl) := hS0
  refine take_h (i := 0) (v := ?_) rfl (by kernel_rfl) (by kernel_rfl) (by kernel_rfl) (fun _ _ _ h => h) (by rfl) ?_ hS0 ?_
  rotate_left
  · (intro X hX; go_simp; try with_reducible rfl)
  simp only [Act.put, List.setIfInBounds_toArray, List.set_cons_zero, List.set_cons_succ]
  refine take_h (i := 1) (v := ?_) rfl (by kernel_rfl) (by kernel_rfl) (by kernel_rfl) (fun _ _ _ h => h) (by rfl) ?_ hS0 ?_
  rotate_left
  · (intro X hX; go_simp; try with_reducible rfl)
  simp only [Act.put, List.setIfInBounds_toArray, List.set_cons_zero, List.set_cons_succ]
  refine take_h (i := 2) (v := ?_) rfl (by kernel_rfl) (by kernel_rfl) (by kernel_rfl) (fun _ _ _ h => h) (by rfl) ?_ hS0 ?_
  rotate_left
  · (intro X hX; go_simp; try with_reducible rfl)
  simp only [Act.put, List.setIfInBounds_toArray, List.set_cons_zero, List.set_cons_succ]
  refine take_h (i := 3) (v := ?_) rfl (by kernel_rfl) (by kernel_rfl) (by kernel_rfl) (fun _ _ _ h => h) (by rfl) ?_ hS0 ?_
  rotate_left
  · (intro X hX; go_simp; try with_reducible rfl)
  simp only [Act.put, List.setIfInBounds_toArray, List.set_cons_zero, List.set_cons_succ]
  refine take_h (i := 4) (v := ?_) rfl (by kernel_rfl) (by kernel_rfl) (by kernel_rfl) (fun _ _ _ h => h) (by rfl) ?_ hS0 ?_
  rotate_left
  · (intro X hX; go_simp; try with_reducible rfl)
  simp only [Act.put, List.setIfInBounds_toArray, List.set_cons_zero, List.set_cons_succ]
  refine take_h (i := 5) (v := ?_) rfl (by kernel_rfl) (by kernel_rfl) (by kernel_rfl) (fun _ _ _ h => h) (by rfl) ?_ hS0 ?_
  rotate_left
  · (intro X hX; go_simp; try with_reducible rfl)
  simp only [Act.put, List.setIfInBounds_toArray, List.set_cons_zero, List.set_cons_succ]
  refine step_h (i := 6) rfl (by kernel_rfl) ?_
  intro KK hKK
  go_simp
  have hbx : Below w0.heap.size w0 (w0.drew.alloc (.cells #[.string key, .int .i64 at_, .bool pl] 36)) := valloc_bel (Below.refl w0.heap.size w0).drew _
  refine hKK.out _ _ ⟨keepCell hbx hS0.1, keepCell hbx hS0.2.1, keepCell hbx hS0.2.2.1, keepCell hbx hS0.2.2.2⟩ (fun hS2 => ?_)
  clear hKK KK
  refine step_h (i := 7) rfl (by kernel_rfl) ?_
  intro KK hKK
  have hnl : ∀ k, (Value.slice on now.length cn).ownBlock = some k → k < w.heap.size := fun k hk => ((HW.out w (Below.refl _ _)).ns.lt k hk).2
  have hwx := hwk.onto hbx
  refine step_append_lies _ (by rfl) _ _ _ (by rfl) W.heap.size 36 i1 (.agg #[.string ⟨#[]⟩, .int .i64 0, .bool false]) 3 32 Tryz.underlying23 hi' hz0' hz1' hz2' rfl (by decide) _ now.length _ (by rfl) hwx.ns ⟨w.heap.size + 2, 0, none⟩ 1 1 (sc ⟨key, at_, pl⟩) (by rfl) rfl (by rw [← hsz0]; exact new_cells w0.drew _ 36) (sc_one _) (by decide) (by unfold maxLen; omega) (by omega) (by have := hwx.bel.size; exact this) (w0.heap.size + 1) (by simp) ?_
  intro g9 cap9 w9 hown9 hgr9 hat9 hlt9
  have hk9 : ∀ (k o : Nat) (u : Value), w.heap.size ≤ k → w0.cell? ⟨k, o, none⟩ = some u → w9.cell? ⟨k, o, none⟩ = some u := fun k o u h1 h2 => by
    have h3 := keepCell hbx h2
    have hlt3 : k < (w0.drew.alloc (.cells #[.string key, .int .i64 at_, .bool pl] 36)).heap.size := by
      rcases Nat.lt_or_ge k (w0.drew.alloc (.cells #[.string key, .int .i64 at_, .bool pl] 36)).heap.size with hh | hh
      · exact hh
      · simp [World.cell?, Array.getElem?_eq_none hh] at h3
    rw [World.cell?_of_block (hgr9.block k hlt3 (fun e => by have := hnl k e.symm; omega))]
    exact h3
  have hd := hwx.down (s := ⟨key, at_, pl⟩) (by simpa using hown9) hgr9 (hat9.imp id (fun h => by rw [h]; simp))
  have hb9 : w9.cell? ⟨b, 0, none⟩ = some (.slice on now.length cn) := by
    rw [World.cell?_of_block (hgr9.block b hwx.lt (off_ne (own_off hwx.ns hwx.box (by decide))))]
    exact hwx.cells.1
  refine hKK.out _ _ ⟨hb9, hk9 _ _ _ (Nat.le_refl _) hS0.2.1, hk9 _ _ _ (Nat.le_refl _) hS0.2.2.1, hk9 _ _ _ (Nat.le_refl _) hS0.2.2.2⟩ (fun hS3 => ?_)
  clear hKK KK hS2
  simp only [Act.put, List.setIfInBounds_toArray, List.set_cons_zero, List.set_cons_succ]
  refine take_h (i := 8) (v := ?_) rfl (by kernel_rfl) (by kernel_rfl) (by kernel_rfl) (fun _ _ _ h => h) (by rfl) ?_ hS3 ?_
  rotate_left
  · (intro X hX; go_simp; try with_reducible rfl)
  simp only [Act.put, List.setIfInBounds_toArray, List.set_cons_zero, List.set_cons_succ]
  refine take_h (i := 9) (v := ?_) rfl (by kernel_rfl) (by kernel_rfl) (by kernel_rfl) (fun _ _ _ h => h) (by rfl) ?_ hS3 ?_
  rotate_left
  · (intro X hX; go_simp; try with_reducible rfl)
  simp only [Act.put, List.setIfInBounds_toArray, List.set_cons_zero, List.set_cons_succ]
  refine wpAnyH_done (by kernel_rfl) ?_ _
  change Oper.wp _ _ _ _ _ _
  have hf9 : w9.frozen? ⟨b, 0, none⟩ = false := by
    have h1 := (hgr9.block b hwx.lt (off_ne (own_off hwx.ns hwx.box (by decide)))).trans hwx.box
    simp [World.frozen?, h1]
  have hv : ∀ (o : Nat) (u : Value), w0.cell? ⟨w.heap.size + 1, o, none⟩ = some u → (w9.setCell ⟨b, 0, none⟩ (.slice (some ⟨g9, 0, none⟩) (now.length + 1) cap9)).cell? ⟨w.heap.size + 1, o, none⟩ = some u := fun o u h => by
    rw [set_other _ _ _ _ _ _ (.inl (by omega))]; exact hk9 _ _ _ (by omega) h
  have v0 := hv 0 (.int .i64 T.kd) (by rw [← hw0]; simp)
  have v1 := hv 1 (.int .i64 T.nm) (by rw [← hw0]; simp)
  have v2 := hv 2 (.string T.st) (by rw [← hw0]; simp)
  have v3 := hv 3 (.slice o1 n1 c1) (by rw [← hw0]; simp)
  have v4 := hv 4 (.slice o2 n2 c2) (by rw [← hw0]; simp)
  have hbd := hd.bel
  have C := hid (HV0.out _ _ b _ _ _ _ _ HT.out hd (by simp; omega) (by omega))
  simp only [vv] at C
  clear hd hv hk9 hgr9 hown9 hS0 hS3 hwx hwk hns HK HW hbx hb0 hb1 hw0
  go_simp
  generalize w9.setCell ⟨b, 0, none⟩ (.slice (some ⟨g9, 0, none⟩) (now.length + 1) cap9) = wA at *
  go_wp2_with fail
  go_at_call 58
  refine C.out.mono ?_
  rintro e w2 ⟨rfl, nv2, pv2, E2, hw2, hE2⟩
  obtain ⟨g2, cap2, rfl, hc2⟩ : ∃ g2 cap2, nv2 = .slice (some ⟨g2, 0, none⟩) (now.length + 1) cap2 ∧ now.length + 1 ≤ cap2 := by
    rcases hw2.ns.2 with ⟨-, e⟩ | ⟨g, cap, cur, rfl, -, -, h1, -⟩
    · simp at e
    · simp at h1; exact ⟨g, cap, by simp, h1⟩
  obtain ⟨q0, q1, qf⟩ := hw2.cells
  have HU := hid hw2.up
  have HE2 := hid hE2
  clear hw2 hE2 C
  go_wp2_with fail
  refine wp_region_ends2 (S := fun X => X.cell? ⟨b, 0, none⟩ = some (.slice (some ⟨g2, 0, none⟩) (now.length + 1) cap2)) (by simp) (by kernel_rfl) (by kernel_rfl) (by kernel_rfl) (by kernel_rfl) (by kernel_rfl) (by kernel_rfl) ?_
  simp only [List.dropLast, List.getLast_cons_cons, List.getLast_singleton, List.length_cons, List.length_nil]
  have hS0 : w2.drew.cell? ⟨b, 0, none⟩ = some (.slice (some ⟨g2, 0, none⟩) (now.length + 1) cap2) := q0
  have hwr : IntKind.i64.wrap (now.length : Int) = now.length := by rw [IntKind.wrap_i64]; omega
  refine take_h (i := 0) (v := ?_) rfl (by kernel_rfl) (by kernel_rfl) (by kernel_rfl) (fun _ _ _ h => h) (by rfl) ?_ hS0 ?_
  rotate_left
  · (intro X hX; go_simp; try with_reducible rfl)
  simp only [Act.put, List.setIfInBounds_toArray, List.set_cons_zero, List.set_cons_succ]
  refine take_h (i := 1) (v := ?_) rfl (by kernel_rfl) (by kernel_rfl) (by kernel_rfl) (fun _ _ _ h => h) (by rfl) ?_ hS0 ?_
  rotate_left
  · (intro X hX; go_simp; try with_reducible rfl)
  simp only [Act.put, List.setIfInBounds_toArray, List.set_cons_zero, List.set_cons_succ]
  refine take_h (i := 2) (v := ?_) rfl (by kernel_rfl) (by kernel_rfl) (by kernel_rfl) (fun _ _ _ h => h) (by rfl) ?_ hS0 ?_
  rotate_left
  · (intro X hX; go_simp; try with_reducible rfl)
  simp only [Act.put, List.setIfInBounds_toArray, List.set_cons_zero, List.set_cons_succ]
  refine take_h (i := 3) (v := ?_) rfl (by kernel_rfl) (by kernel_rfl) (by kernel_rfl) (fun _ _ _ h => h) (by rfl) ?_ hS0 ?_
  rotate_left
  · (intro X hX; go_simp; try with_reducible rfl)
  simp only [Act.put, List.setIfInBounds_toArray, List.set_cons_zero, List.set_cons_succ]
  refine take_h (i := 4) (v := ?_) rfl (by kernel_rfl) (by kernel_rfl) (by kernel_rfl) (fun _ _ _ h => h) (by rfl) ?_ hS0 ?_
  rotate_left
  · (intro X hX; go_simp; try with_reducible rfl)
  simp only [Act.put, List.setIfInBounds_toArray, List.set_cons_zero, List.set_cons_succ]
  refine take_h (i := 5) (v := ?_) rfl (by kernel_rfl) (by kernel_rfl) (by kernel_rfl) (fun _ _ _ h => h) (by rfl) ?_ hS0 ?_
  rotate_left
  · (intro X hX; go_simp; try with_reducible rfl)
  simp only [Act.put, List.setIfInBounds_toArray, List.set_cons_zero, List.set_cons_succ]
  refine take_h (i := 6) (v := ?_) rfl (by kernel_rfl) (by kernel_rfl) (by kernel_rfl) (fun _ _ _ h => h) (by rfl) ?_ hS0 ?_
  rotate_left
  · (intro X hX; go_simp; try with_reducible rfl)
  simp only [Act.put, List.setIfInBounds_toArray, List.set_cons_zero, List.set_cons_succ]
  refine take_h (i := 7) (v := ?_) rfl (by kernel_rfl) (by kernel_rfl) (by kernel_rfl) (fun _ _ _ h => h) (by rfl) ?_ hS0 ?_
  rotate_left
  · (intro X hX; go_simp; try with_reducible rfl)
  simp only [Act.put, List.setIfInBounds_toArray, List.set_cons_zero, List.set_cons_succ]
  refine take_h (i := 8) (v := ?_) rfl (by kernel_rfl) (by kernel_rfl) (by kernel_rfl) (fun _ _ _ h => h) (by rfl) ?_ hS0 ?_
  rotate_left
  · (intro X hX; go_simp; try with_reducible rfl)
  simp only [Act.put, List.setIfInBounds_toArray, List.set_cons_zero, List.set_cons_succ]
  refine take_h (i := 9) (v := ?_) rfl (by kernel_rfl) (by kernel_rfl) (by kernel_rfl) (fun _ _ _ h => h) (by rfl) ?_ hS0 ?_
  rotate_left
  · (intro X hX; go_simp; try with_reducible rfl)
  simp only [Act.put, List.setIfInBounds_toArray, List.set_cons_zero, List.set_cons_succ]
  refine take_h (i := 10) (v := .int .i64 (now.length : Int)) rfl (by kernel_rfl) (by kernel_rfl) (by kernel_rfl) (fun _ _ _ h => h) (by rfl) ?_ hS0 ?_
  · (intro X hX; go_simp)
  simp only [Act.put, List.setIfInBounds_toArray, List.set_cons_zero, List.set_cons_succ]
  refine take_h (i := 11) (v := .slice (some ⟨g2, 0, none⟩) now.length cap2) rfl (by kernel_rfl) (by kernel_rfl) (by kernel_rfl) (fun _ _ _ h => h) (by rfl) ?_ hS0 ?_
  · (intro X hX; go_simp; try (intro hh; exact absurd hh (by omega)))
  simp only [Act.put, List.setIfInBounds_toArray, List.set_cons_zero, List.set_cons_succ]
  refine take_h (i := 12) (v := ?_) rfl (by kernel_rfl) (by kernel_rfl) (by kernel_rfl) (fun _ _ _ h => h) (by rfl) ?_ hS0 ?_
  rotate_left
  · (intro X hX; go_simp; try with_reducible rfl)
  simp only [Act.put, List.setIfInBounds_toArray, List.set_cons_zero, List.set_cons_succ]
  refine take_h (i := 13) (v := ?_) rfl (by kernel_rfl) (by kernel_rfl) (by kernel_rfl) (fun _ _ _ h => h) (by rfl) ?_ hS0 ?_
  rotate_left
  · (intro X hX; go_simp; try with_reducible rfl)
  simp only [Act.put, List.setIfInBounds_toArray, List.set_cons_zero, List.set_cons_succ]
  refine wpAnyH_done (by kernel_rfl) ?_ _
  change Oper.wp _ _ _ _ _ _
  go_simp
  go_wp2_with fail
  refine bodyPost_end (v := .tuple #[]) (by simp [results, Tryz.results83, go_sem]) rfl ?_
  exact ⟨rfl, _, _, E2, HU.out.onto (Below.refl _ _).drew, HE2.out⟩
end Go.Proofs.YtjcejjejlekelaaGreatDoor
namespace Go.Proofs.YtjcejjejlekelaaGreatDoor
open Go.RowKit

theorem allT_at {T : VT} {now : List PStep} : allT T now = now :: (if T.kd = 5 then allL T.ls 0 now else if T.kd = 6 then allM T.vs T.ks now else []) := by
  cases T with
  | mk k n s L K V => rfl
theorem map_len {α β : Type} {f : α → β} {E : List α} {X : List β} (h : E.map f = X) : E.length = X.length := by rw [← h, List.length_map]
theorem szT_at (T : VT) : szT T = 1 + szL T.ls + szL T.vs := by cases T; rfl
theorem own_slice {w : World} {B : Nat} {e : TypeId} {k n : Nat} {v : Value} {xs : List Value} (h : w.ownsRow B e k v n xs) : ∃ o c, v = .slice o n c := by
  rcases h.2 with ⟨rfl, e⟩ | ⟨g, cap, cur, rfl, -⟩
  · exact ⟨none, 0, by rw [e]⟩
  · exact ⟨_, _, rfl⟩
set_option maxRecDepth 100000 in
set_option maxHeartbeats 4000000 in
theorem visit_any (W : World) : ∀ (N : Nat) (T : VT), szT T ≤ N → VisitOk W T := by
  intro N
  induction N with
  | zero => intro T h; have := szT_pos T; omega
  | succ N ih =>
  intro T hN x y b nv pv0 now E w hT hW hn hE
  have HIH := hid (fun (t : VT) (h1 : szT t < szT T) => ih t (by omega))
  clear ih
  have hlen := len_sz T
  have hsz := szT_at T
  obtain ⟨al, bl, f, g, p, q, oL, oM, cL, cM, rfl, rfl, -, -, hL3, hM3, hK, -, hlL, hlM, kL, kK, kM, rL, rM, -, -⟩ := hT.parts
  obtain ⟨i1, hi', hz0', hz1', hz2'⟩ := info_parts Tryz.infoPath
  obtain ⟨⟨on, cn, rfl⟩, ⟨op, cp, rfl⟩⟩ := hW.slices
  have HW := hid (fun X (hX : Below w.heap.size w X) => hW.onto hX)
  have hltb := hW.lt
  have HkL := hid kL; have HkK := hid kK; have HkM := hid kM; have HrL := hid rL; have HrM := hid rM; have HKL := hid hK
  clear hT hW kL kK kM rL rM hK
  simp only [vv]
  go_enter Tryz.func58, Tryz.ntmps58
  go_wp2_with fail
  have hb0 : Below w.heap.size w (w.alloc (.cells #[.int .i64 T.kd, .int .i64 T.nm, .string T.st, .slice oL T.ls.length cL, .slice oM T.vs.length cM] 31)) := valloc_bel (Below.refl _ _) _
  have hwk := HW.out _ hb0
  have hc0 : ∀ (o : Nat) (u : Value), [Value.int .i64 T.kd, .int .i64 T.nm, .string T.st, .slice oL T.ls.length cL, .slice oM T.vs.length cM][o]? = some u → (w.alloc (.cells #[.int .i64 T.kd, .int .i64 T.nm, .string T.st, .slice oL T.ls.length cL, .slice oM T.vs.length cM] 31)).cell? ⟨w.heap.size, o, none⟩ = some u := fun o u h => by
    have := new_cells w [Value.int .i64 T.kd, .int .i64 T.nm, .string T.st, .slice oL T.ls.length cL, .slice oM T.vs.length cM] 31 o u h
    rwa [add_at] at this
  generalize hw0 : (w.alloc (.cells #[.int .i64 T.kd, .int .i64 T.nm, .string T.st, .slice oL T.ls.length cL, .slice oM T.vs.length cM] 31)) = w0 at *
  have hsz0 : w0.heap.size = w.heap.size + 1 := by rw [← hw0]; simp
  have hpl : ∀ k, (Value.slice op E.length cp).ownBlock = some k → k < w.heap.size := fun k hk => ((HW.out w (Below.refl _ _)).ps.lt k hk).2
  obtain ⟨q0, q1, -⟩ := hwk.cells
  refine wp_region_ends2 (S := fun X => X.cell? ⟨b, 0, none⟩ = some (.slice on now.length cn) ∧ X.cell? ⟨b, 1, none⟩ = some (.slice op E.length cp)) (by simp) (by kernel_rfl) (by kernel_rfl) (by kernel_rfl) (by kernel_rfl) (by kernel_rfl) (by kernel_rfl) ?_
  simp only [List.dropLast, List.getLast_cons_cons, List.getLast_singleton, List.length_cons, List.length_nil]
  have hS0 : w0.drew.cell? ⟨b, 0, none⟩ = some (.slice on now.length cn) ∧ w0.drew.cell? ⟨b, 1, none⟩ = some (.slice op E.length cp) := ⟨q0, q1⟩
  refine take_h (i := 0) (v := ?_) rfl (by kernel_rfl) (by kernel_rfl) (by kernel_rfl) (fun _ _ _ h => h) (by rfl) ?_ hS0 ?_
  rotate_left
  · (intro X hX; go_simp; try with_reducible rfl)
  simp only [Act.put, List.setIfInBounds_toArray, List.set_cons_zero, List.set_cons_succ]
  refine take_h (i := 1) (v := ?_) rfl (by kernel_rfl) (by kernel_rfl) (by kernel_rfl) (fun _ _ _ h => h) (by rfl) ?_ hS0 ?_
  rotate_left
  · (intro X hX; go_simp; try with_reducible rfl)
  simp only [Act.put, List.setIfInBounds_toArray, List.set_cons_zero, List.set_cons_succ]
  refine take_h (i := 2) (v := ?_) rfl (by kernel_rfl) (by kernel_rfl) (by kernel_rfl) (fun _ _ _ h => h) (by rfl) ?_ hS0 ?_
  rotate_left
  · (intro X hX; go_simp; try with_reducible rfl)
  simp only [Act.put, List.setIfInBounds_toArray, List.set_cons_zero, List.set_cons_succ]
  refine take_h (i := 3) (v := ?_) rfl (by kernel_rfl) (by kernel_rfl) (by kernel_rfl) (fun _ _ _ h => h) (by rfl) ?_ hS0 ?_
  rotate_left
  · (intro X hX; go_simp; try with_reducible rfl)
  simp only [Act.put, List.setIfInBounds_toArray, List.set_cons_zero, List.set_cons_succ]
  refine take_h (i := 4) (v := ?_) rfl (by kernel_rfl) (by kernel_rfl) (by kernel_rfl) (fun _ _ _ h => h) (by rfl) ?_ hS0 ?_
  rotate_left
  · (intro X hX; go_simp; try with_reducible rfl)
  simp only [Act.put, List.setIfInBounds_toArray, List.set_cons_zero, List.set_cons_succ]
  refine take_h (i := 5) (v := ?_) rfl (by kernel_rfl) (by kernel_rfl) (by kernel_rfl) (fun _ _ _ h => h) (by rfl) ?_ hS0 ?_
  rotate_left
  · (intro X hX; go_simp; try with_reducible rfl)
  simp only [Act.put, List.setIfInBounds_toArray, List.set_cons_zero, List.set_cons_succ]
  refine take_h (i := 6) (v := ?_) rfl (by kernel_rfl) (by kernel_rfl) (by kernel_rfl) (fun _ _ _ h => h) (by rfl) ?_ hS0 ?_
  rotate_left
  · (intro X hX; go_simp; try with_reducible rfl)
  simp only [Act.put, List.setIfInBounds_toArray, List.set_cons_zero, List.set_cons_succ]
  refine take_h (i := 7) (v := ?_) rfl (by kernel_rfl) (by kernel_rfl) (by kernel_rfl) (fun _ _ _ h => h) (by rfl) ?_ hS0 ?_
  rotate_left
  · (intro X hX; go_simp; try with_reducible rfl)
  simp only [Act.put, List.setIfInBounds_toArray, List.set_cons_zero, List.set_cons_succ]
  refine take_h (i := 8) (v := ?_) rfl (by kernel_rfl) (by kernel_rfl) (by kernel_rfl) (fun _ _ _ h => h) (by rfl) ?_ hS0 ?_
  rotate_left
  · (intro X hX; go_simp; try with_reducible rfl)
  simp only [Act.put, List.setIfInBounds_toArray, List.set_cons_zero, List.set_cons_succ]
  refine step_h (i := 9) rfl (by kernel_rfl) ?_
  intro KK hKK
  have HC := hid (pclone_any now _ _ w0.drew hwk.ns (by omega))
  go_simp
  go_wp2_with (go_at_call 82; go_must (refine HC.out.mono ?_; rintro e w1 ⟨u, rfl, hu1, hb1⟩))
  obtain ⟨ou, cu, rfl⟩ := own_slice hu1
  replace hb1 : Below w0.heap.size w0 w1 := (Below.refl w0.heap.size w0).drew.trans hb1
  refine hKK.out _ _ ⟨keepCell hb1 q0, keepCell hb1 q1⟩ (fun hS1 => ?_)
  clear hKK KK
  refine step_h (i := 10) rfl (by kernel_rfl) ?_
  intro KK hKK
  go_simp
  have hbx : Below w0.heap.size w0 (w1.alloc (.cells #[.slice ou now.length cu] 23)) := valloc_bel hb1 _
  refine hKK.out _ _ ⟨keepCell hbx q0, keepCell hbx q1⟩ (fun hS2 => ?_)
  clear hKK KK hS1
  refine step_h (i := 11) rfl (by kernel_rfl) ?_
  intro KK hKK
  have hwx := hwk.onto hbx
  have hs1 := hb1.size
  refine step_append_lies _ (by rfl) _ _ _ (by rfl) W.heap.size 23 i1 (.slice none 0 0) 1 24 Tryz.underlying58 hi' hz0' hz1' hz2' rfl (by decide) _ E.length _ (by rfl) hwx.ps ⟨w1.heap.size, 0, none⟩ 1 1 [.slice ou now.length cu] (by rfl) rfl (new_cells w1 _ 23) (by intro u hu; simp at hu; subst hu; rfl) (by decide) (by unfold maxLen; omega) (by omega) (by have := hwx.bel.size; exact this) (w1.heap.size + 1) (by simp) ?_
  intro g9 cap9 w9 hown9 hgr9 hat9 hlt9
  have hux : OwnS W (w1.alloc (.cells #[.slice ou now.length cu] 23)) (.slice ou now.length cu) now := own_base (hu1.alloc _) (by have := hwk.bel.size; exact this)
  have hun : (Value.slice ou now.length cu).ownBlock = none ∨ (Value.slice ou now.length cu).ownBlock ≠ (Value.slice on now.length cn).ownBlock := by
    cases hv : (Value.slice ou now.length cu).ownBlock with
    | none => exact .inl rfl
    | some k =>
      refine .inr fun hh => ?_
      have h1 := (hu1.lt k hv).1
      have h2 := (hwk.ns.lt k hh.symm).2
      have h3 : w0.drew.heap.size = w0.heap.size := rfl
      omega
  have hd := hwx.more hux hun hown9 hgr9
  have hbne := off_ne (own_off hwx.ps hwx.box (by decide))
  have hbx9 := (hgr9.block b hwx.lt hbne).trans hwx.box
  have c90 : w9.cell? ⟨b, 0, none⟩ = some (.slice on now.length cn) := by rw [cell_of_row w9 b 0 _ _ _ hbx9]; rfl
  have c91 : w9.cell? ⟨b, 1, none⟩ = some (.slice op E.length cp) := by rw [cell_of_row w9 b 1 _ _ _ hbx9]; rfl
  have hf9 : w9.frozen? ⟨b, 1, none⟩ = false := by simp [World.frozen?, hbx9]
  refine hKK.out _ _ ⟨c90, c91⟩ (fun hS3 => ?_)
  clear hKK KK hS2
  simp only [Act.put, List.setIfInBounds_toArray, List.set_cons_zero, List.set_cons_succ]
  refine take_h (i := 12) (v := ?_) rfl (by kernel_rfl) (by kernel_rfl) (by kernel_rfl) (fun _ _ _ h => h) (by rfl) ?_ hS3 ?_
  rotate_left
  · (intro X hX; go_simp; try with_reducible rfl)
  simp only [Act.put, List.setIfInBounds_toArray, List.set_cons_zero, List.set_cons_succ]
  refine take_h (i := 13) (v := ?_) rfl (by kernel_rfl) (by kernel_rfl) (by kernel_rfl) (fun _ _ _ h => h) (by rfl) ?_ hS3 ?_
  rotate_left
  · (intro X hX; go_simp; try with_reducible rfl)
  simp only [Act.put, List.setIfInBounds_toArray, List.set_cons_zero, List.set_cons_succ]
  refine wpAnyH_done (by kernel_rfl) ?_ _
  change Oper.wp _ _ _ _ _ _
  have hv : ∀ (o : Nat) (u : Value), [Value.int .i64 T.kd, .int .i64 T.nm, .string T.st, .slice oL T.ls.length cL, .slice oM T.vs.length cM][o]? = some u → (w9.setCell ⟨b, 1, none⟩ (.slice (some ⟨g9, 0, none⟩) (E.length + 1) cap9)).cell? ⟨w.heap.size, o, none⟩ = some u := fun o u h => by
    rw [set_other _ _ _ _ _ _ (.inl (by omega)), World.cell?_of_block (hgr9.block w.heap.size (by simp; omega) (fun e => by have := hpl _ e.symm; omega))]
    exact keepCell hbx (hc0 o u h)
  have v0 := hv 0 _ rfl
  have v3 := hv 3 _ rfl
  have v4 := hv 4 _ rfl
  have HD := hid hd
  have HMP := hid (show (E ++ [(now, Value.slice ou now.length cu)]).map (·.1) = E.map (·.1) ++ [now] by simp)
  have hEl : (E ++ [(now, Value.slice ou now.length cu)]).length = E.length + 1 := by simp
  clear hd hv hgr9 hown9 hS0 hS3 hwx hwk HW hbx hb0 hb1 hw0 hux hun hu1 hbne hbx9 c90 q0 q1 hpl hat9 hlt9 hc0 hi' hz0' hz1' hz2'
  go_simp
  generalize w9.setCell ⟨b, 1, none⟩ (.slice (some ⟨g9, 0, none⟩) (E.length + 1) cap9) = wA at *
  generalize E ++ [(now, Value.slice ou now.length cu)] = E1 at *
  by_cases hk5 : T.kd = 5
  · have t5 : (T.kd == 5) = true := by simpa using hk5
    have HALL := hid (show allT T now = now :: allL T.ls 0 now by rw [allT_at, if_pos hk5])
    clear hk5 v4
    go_wp2_with fail
    go_loopw [29] (fun i wr => ∃ (j : Nat) (nv2 pv2 : Value) (E2 : List (List PStep × Value)), i = .int .i64 j ∧ j ≤ T.ls.length ∧ Hid (Wk W b nv2 pv2 now E2 wr) ∧ Hid (E2.map (·.1) = (E.map (·.1) ++ [now]) ++ allL (T.ls.take j) 0 now)) (fun i _ => T.ls.length - (intOf i).toNat)
    case atStart => exact ⟨0, _, _, E1, rfl, Nat.zero_le _, HD.out, hid (by rw [HMP.out]; simp [allL])⟩
    case round =>
      obtain ⟨j, nv2, pv2, E2, rfl, hj, HK2, HE2⟩ := hrel
      by_cases hlt : j < T.ls.length
      · obtain ⟨t, ht⟩ : ∃ t, T.ls[j]? = some t := ⟨T.ls[j], List.getElem?_eq_getElem hlt⟩
        obtain rfl := hL3 (by omega)
        obtain ⟨d0, d1, d2, d3, d4⟩ := (HkL.out j t ht).onto HK2.out.bel
        obtain ⟨o1, n1, c1, o2, n2, c2, hf, hg⟩ := hv_slices (HrL.out j t ht)
        rw [hf] at d3
        rw [hg] at d4
        have hsm := szT_ls T j t ht
        have hE2 := map_len HE2.out
        simp only [List.length_append, List.length_map, List.length_singleton] at hE2
        have ha1 := allL_len (T.ls.take j) 0 now
        have ha2 := szL_take_succ T.ls j t ht
        have ha3 := szL_take_le T.ls (j + 1)
        have C := hid (fun (X : World) (hX : Below wr.heap.size wr X) => enter_any W t (HIH.out t hsm) (plS j) _ _ b nv2 pv2 now E2 X (HrL.out j t ht) (HK2.out.onto hX) (by omega) (by omega))
        rw [hf, hg] at C
        simp only [vv, pv, plS] at C
        have HSN := hid (show allL (T.ls.take (j + 1)) 0 now = allL (T.ls.take j) 0 now ++ allT t (now ++ [plS j]) by
          rw [List.take_add_one, ht]
          show allL (T.ls.take j ++ [t]) 0 now = _
          rw [allL_snoc, List.length_take, Nat.min_eq_left hj, Nat.zero_add])
        clear ht hf hg hE2 ha1 ha2 ha3 hsm
        go_wp2_with fail
        go_at_call 83
        refine (C.out _ (valloc_bel (Below.refl _ _) _)).mono ?_
        rintro e w2 ⟨rfl, nv3, pv3, E3, hk3, he3⟩
        have HK3 := hid hk3
        have HE3 := hid he3
        clear hk3 he3 C
        go_wp2_with fail
        go_roundw
        case rel => exact ⟨j + 1, nv3, pv3, E3, val_int (by omega), hlt, HK3.out, hid (by rw [HSN.out, HE3.out, HE2.out]; simp [plS])⟩
        case measure => simp [intOf]; omega
      · have htk : T.ls.take j = T.ls := List.take_of_length_le (by omega)
        rw [htk] at HE2
        clear htk
        go_wp2_with fail
        refine bodyPost_end (v := .tuple #[]) (by simp [results, Tryz.results58, go_sem]) rfl ?_
        exact ⟨rfl, _, _, E2, HK2.out, by rw [HE2.out, HALL.out]; simp⟩
  · have t5 : (T.kd == 5) = false := by simpa using hk5
    by_cases hk6 : T.kd = 6
    · have t6 : (T.kd == 6) = true := by simpa using hk6
      have HALL := hid (show allT T now = now :: allM T.vs T.ks now by rw [allT_at, if_neg hk5, if_pos hk6])
      clear hk5 hk6 v3
      go_wp2_with fail
      go_loopw [45] (fun i wr => ∃ (j : Nat) (nv2 pv2 : Value) (E2 : List (List PStep × Value)), i = .int .i64 j ∧ j ≤ T.vs.length ∧ Hid (Wk W b nv2 pv2 now E2 wr) ∧ Hid (E2.map (·.1) = (E.map (·.1) ++ [now]) ++ allM (T.vs.take j) T.ks now)) (fun i _ => T.vs.length - (intOf i).toNat)
      case atStart => exact ⟨0, _, _, E1, rfl, Nat.zero_le _, HD.out, hid (by rw [HMP.out]; simp [allM])⟩
      case round =>
        obtain ⟨j, nv2, pv2, E2, rfl, hj, HK2, HE2⟩ := hrel
        by_cases hlt : j < T.vs.length
        · obtain ⟨t, ht⟩ : ∃ t, T.vs[j]? = some t := ⟨T.vs[j], List.getElem?_eq_getElem hlt⟩
          obtain ⟨key, hkey⟩ : ∃ c, T.ks[j]? = some c := ⟨T.ks[j]'(by have := HKL.out; omega), List.getElem?_eq_getElem _⟩
          obtain rfl := hM3 (by omega)
          obtain ⟨d0, d1, d2, d3, d4⟩ := (HkM.out j t ht).onto HK2.out.bel
          have dk := keepCell HK2.out.bel (HkK.out j key hkey).1
          obtain ⟨o1, n1, c1, o2, n2, c2, hf, hg⟩ := hv_slices (HrM.out j t ht)
          rw [hf] at d3
          rw [hg] at d4
          simp only [nx] at d0 d1 d2 d3 d4
          have hsm := szT_vs T j t ht
          have hE2 := map_len HE2.out
          simp only [List.length_append, List.length_map, List.length_singleton] at hE2
          have ha1 := allM_len (T.vs.take j) T.ks now
          have ha2 := szL_take_succ T.vs j t ht
          have ha3 := szL_take_le T.vs (j + 1)
          have C := hid (fun (X : World) (hX : Below wr.heap.size wr X) => enter_any W t (HIH.out t hsm) (kyS key) _ _ b nv2 pv2 now E2 X (HrM.out j t ht) (HK2.out.onto hX) (by omega) (by omega))
          rw [hf, hg] at C
          simp only [vv, pv, kyS] at C
          have HSN := hid (show allM (T.vs.take (j + 1)) T.ks now = allM (T.vs.take j) T.ks now ++ allT t (now ++ [kyS key]) by
            rw [List.take_add_one, ht]
            show allM (T.vs.take j ++ [t]) T.ks now = _
            rw [allM_snoc t now _ _ key (by rw [List.length_take, Nat.min_eq_left hj]; exact hkey)])
          clear ht hf hg hE2 ha1 ha2 ha3 hsm hkey
          go_wp2_with fail
          go_at_call 83
          refine (C.out _ (valloc_bel (Below.refl _ _) _)).mono ?_
          rintro e w2 ⟨rfl, nv3, pv3, E3, hk3, he3⟩
          have HK3 := hid hk3
          have HE3 := hid he3
          clear hk3 he3 C
          go_wp2_with fail
          go_roundw
          case rel => exact ⟨j + 1, nv3, pv3, E3, val_int (by omega), hlt, HK3.out, hid (by rw [HSN.out, HE3.out, HE2.out]; simp [kyS])⟩
          case measure => simp [intOf]; omega
        · have htk : T.vs.take j = T.vs := List.take_of_length_le (by omega)
          rw [htk] at HE2
          clear htk
          go_wp2_with fail
          refine bodyPost_end (v := .tuple #[]) (by simp [results, Tryz.results58, go_sem]) rfl ?_
          exact ⟨rfl, _, _, E2, HK2.out, by rw [HE2.out, HALL.out]; simp⟩
    · have t6 : (T.kd == 6) = false := by simpa using hk6
      have HALL := hid (show allT T now = [now] by rw [allT_at, if_neg hk5, if_neg hk6])
      clear hk5 hk6
      go_wp2_with fail
      refine bodyPost_end (v := .tuple #[]) (by simp [results, Tryz.results58, go_sem]) rfl ?_
      exact ⟨rfl, _, _, E1, HD.out, by rw [HMP.out, HALL.out]⟩
set_option maxRecDepth 100000 in
set_option maxHeartbeats 1000000 in
theorem pall_any (T : VT) (x y : Value) (w : World) (hT : HV w T x y) (hm : szT T ≤ 1000000) :
    Calls Tryz.prog 31 #[vv T x y] w fun e w' => ∃ v E, e = .returned v ∧ OwnP w w' v E ∧ (∀ e ∈ E, OwnS w w' e.2 e.1) ∧ E.map (·.1) = allT T [] ∧ Below w.heap.size w w' := by
  obtain ⟨o1, n1, c1, o2, n2, c2, rfl, rfl⟩ := hv_slices hT
  have HN := hid (wk_new w (.cells #[.int .i64 T.kd, .int .i64 T.nm, .string T.st, .slice o1 n1 c1, .slice o2 n2 c2] 31))
  have HC := hid (visit_any w (szT T) T (Nat.le_refl _) _ _ _ _ _ _ _ _ hT HN.out (by simp; omega) (by simp; omega))
  simp only [vv] at HC ⊢
  clear hT
  go_enter Tryz.func31, Tryz.ntmps31
  go_wp2_with fail
  go_at_call 58
  refine HC.out.mono ?_
  rintro e w1 ⟨rfl, nv2, pv2, E2, hk, he⟩
  obtain ⟨q0, q1, -⟩ := hk.cells
  obtain ⟨⟨oa, ca, rfl⟩, ⟨ob, cb, rfl⟩⟩ := hk.slices
  have HK := hid hk
  have HE := hid he
  clear hk he HC HN
  go_wp2_with fail
  go_ret
  exact ⟨_, E2, rfl, HK.out.ps, fun e he => (HK.out.es e he).1, by rw [HE.out]; rfl, HK.out.bel⟩
end Go.Proofs.YtjcejjejlekelaaGreatDoor
