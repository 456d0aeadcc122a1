import Derived.Test.YtjbccmnmcjmooaaDoorCrG
import Derived.Test.YtjbccmnmcjmooaaDoorMathCsv2
/- cread's read: all rows. -/
namespace Go.Proofs.YtjbccmnmcjmooaaDoor
open Go.RowKit

theorem ownsRow_mono {w : World} {base base' : Nat} {ty : TypeId} {sz : Nat} {v : Value} {n : Nat} {xs : List Value} (h : w.ownsRow base ty sz v n xs) (hb : base' ≤ base) : w.ownsRow base' ty sz v n xs := by
  refine ⟨h.1, ?_⟩
  rcases h.2 with h0 | ⟨g, cap, cur, h1, h2, h3⟩
  · exact Or.inl h0
  · exact Or.inr ⟨g, cap, cur, h1, Nat.le_trans hb h2, h3⟩
/-- blocks of other types are other blocks -/
theorem ownsRow_apart {w : World} {b1 b2 : Nat} {t1 t2 : TypeId} {s1 s2 : Nat} {v1 v2 : Value} {n1 n2 : Nat} {x1 x2 : List Value} (h1 : w.ownsRow b1 t1 s1 v1 n1 x1) (h2 : w.ownsRow b2 t2 s2 v2 n2 x2) (ht : t1 ≠ t2) : v1.ownBlock = none ∨ v1.ownBlock ≠ v2.ownBlock := by
  rcases h1.2 with ⟨rfl, -⟩ | ⟨g, cap, cur, rfl, -, hg, -⟩
  · left; rfl
  · rcases h2.2 with ⟨rfl, -⟩ | ⟨g2, cap2, cur2, rfl, -, hg2, -⟩
    · right; simp [Value.ownBlock]
    · right
      intro e
      simp only [Value.ownBlock, Option.some.injEq] at e
      subst e
      rw [hg] at hg2
      simp at hg2
      exact ht hg2.2
/-- rows in memory -/
structure Rws (W : World) (base : Nat) (u : Value) (E : List (List (List UInt8) × Value)) : Prop where
  own : W.ownsRow base 24 1 u E.length (E.map (·.2))
  rows : ∀ e ∈ E, W.ownsRow base 9 1 e.2 e.1.length (fvs e.1)
theorem Rws.onto {W W' : World} {base : Nat} {u : Value} {E : List (List (List UInt8) × Value)} (h : Rws W base u E) (hb : Below W.heap.size W W') : Rws W' base u E :=
  ⟨ownsRow_below h.own hb, fun e he => ownsRow_below (h.rows e he) hb⟩
theorem Rws.far {W W' : World} {base b : Nat} {u : Value} {E : List (List (List UInt8) × Value)} (h : Rws W base u E) (ho : Own b W W') (hb : b < base) : Rws W' base u E :=
  ⟨own_row_far h.own ho hb, fun e he => own_row_far (h.rows e he) ho hb⟩
theorem Rws.mono {W : World} {base base' : Nat} {u : Value} {E : List (List (List UInt8) × Value)} (h : Rws W base u E) (hb : base' ≤ base) : Rws W base' u E :=
  ⟨ownsRow_mono h.own hb, fun e he => ownsRow_mono (h.rows e he) hb⟩
theorem Rws.more {W W' : World} {base : Nat} {u u' : Value} {E : List (List (List UInt8) × Value)} {fs : List (List UInt8)} {v : Value} (h : Rws W base u E) (hv : W.ownsRow base 9 1 v fs.length (fvs fs)) (hn : W'.ownsRow base 24 1 u' (E.length + 1) (E.map (·.2) ++ [v])) (hg : W.grownBy W' u.ownBlock) : Rws W' base u' (E ++ [(fs, v)]) := by
  refine ⟨by rw [List.length_append, List.map_append]; exact hn, fun e he => ?_⟩
  rcases List.mem_append.1 he with he | he
  · exact (h.rows e he).kept hg (ownsRow_apart (h.rows e he) h.own (by decide))
  · simp at he; subst he
    exact hv.kept hg (ownsRow_apart hv h.own (by decide))
/-- what read ends in -/
def To (t : ByteArray) (w : World) (R : CTR) (e : Ending) (w' : World) : Prop := match R with
  | .ok rs => ∃ o n c E, e = .returned (.slice o n c) ∧ E.map (·.1) = rs ∧ Rws w' w.heap.size (.slice o n c) E ∧ Below w.heap.size w w'
  | .bad er r => cFaulted t er (t.size - r.length) e ∧ Below w.heap.size w w'
theorem cown_bel {w a c : World} {b : Nat} (h : Below w.heap.size w a) (ho : Own b a c) (hb : w.heap.size ≤ b) : Below w.heap.size w c :=
  ⟨ho.os.trans h.os, ho.tape.trans h.tape, ho.output.trans h.output, Nat.le_trans h.size ho.size, fun k hk => (ho.block k (Nat.lt_of_lt_of_le hk h.size) (fun e => by injection e with e; omega)).trans (h.block k hk)⟩
theorem Tryd.info_strs : (Tryd.prog.info? 24).map (fun i => (i.zero, i.size, i.bytes)) = some (some (.slice none 0 0), 1, 24) := by kernel_rfl
theorem slice_shape {W : World} {base : Nat} {ty : TypeId} {sz : Nat} {u : Value} {n : Nat} {xs : List Value} (h : W.ownsRow base ty sz u n xs) : ∃ o c, u = .slice o n c := by
  rcases h.2 with ⟨rfl, hn⟩ | ⟨gg, cap, cur, rfl, -⟩
  · exact ⟨none, 0, by rw [hn]⟩
  · exact ⟨_, cap, rfl⟩
end Go.Proofs.YtjbccmnmcjmooaaDoor
