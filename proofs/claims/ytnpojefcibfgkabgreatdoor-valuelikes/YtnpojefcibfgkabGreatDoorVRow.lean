/- Rows of cells in a block of one's own: what may be stored there, and what lies there then. -/
import Derived.Test.YtnpojefcibfgkabGreatDoorVFresh
import Derived.Laws.MakeOwn
namespace Go.Proofs.YtnpojefcibfgkabGreatDoor
open Go.RowKit

/-- a block of so many cells, none of them frozen -/
def Row (w : World) (b : Nat) (t : TypeId) (m : Nat) : Prop := ∃ c : Array Value, w.heap[b]? = some (.cells c t (0, 0)) ∧ c.size = m
theorem Row.cell {w : World} {b m : Nat} {t : TypeId} (h : Row w b t m) {o : Nat} (ho : o < m) : ∃ v, w.cell? ⟨b, o, none⟩ = some v := by
  obtain ⟨c, hc, rfl⟩ := h
  exact ⟨c[o], by simp [World.cell?, hc, ho]⟩
theorem Row.frozen {w : World} {b m : Nat} {t : TypeId} (h : Row w b t m) (o : Nat) : w.frozen? ⟨b, o, none⟩ = false := by
  obtain ⟨c, hc, rfl⟩ := h
  simp [World.frozen?, hc]
theorem Row.set {w : World} {b m : Nat} {t : TypeId} (h : Row w b t m) (p : Addr) (u : Value) : Row (w.setCell p u) b t m := by
  obtain ⟨c, hc, rfl⟩ := h
  by_cases hp : p.block = b
  · refine ⟨if p.spot.isSome then c else c.setIfInBounds p.off u, ?_, by split <;> simp⟩
    simp [World.setCell, Array.getElem?_modify, hp, hc]
  · exact ⟨c, by rw [Below.heap_setCell _ _ _ _ (fun e => hp e.symm)]; exact hc, rfl⟩
theorem Row.onto {w w' : World} {b m : Nat} {t : TypeId} (h : Row w b t m) (hb : w'.heap[b]? = w.heap[b]?) : Row w' b t m := by
  obtain ⟨c, hc, rfl⟩ := h
  exact ⟨c, hb.trans hc, rfl⟩
theorem Row.new (w : World) (c : Array Value) (t : TypeId) : Row (w.alloc (.cells c t)) w.heap.size t c.size := ⟨c, by show (w.heap.push _)[w.heap.size]? = _; simp, rfl⟩
theorem Row.lt {w : World} {b m : Nat} {t : TypeId} (h : Row w b t m) : b < w.heap.size := by
  obtain ⟨c, hc, rfl⟩ := h
  exact (Array.getElem?_eq_some_iff.1 hc).1
theorem set_other (w : World) (b b' o o' : Nat) (v : Value) (h : b ≠ b' ∨ o ≠ o') : (w.setCell ⟨b, o, none⟩ v).cell? ⟨b', o', none⟩ = w.cell? ⟨b', o', none⟩ :=
  World.cell?_setCell_other _ _ _ _ (fun e => by injection e with e1 e2; omega)
theorem set_same {w : World} {b m : Nat} {t : TypeId} (h : Row w b t m) {o : Nat} (ho : o < m) (v : Value) : (w.setCell ⟨b, o, none⟩ v).cell? ⟨b, o, none⟩ = some v := by
  obtain ⟨u, hu⟩ := h.cell ho
  exact World.cell?_setCell_same _ _ _ hu
def put5 (w : World) (b o : Nat) (v0 v1 v2 v3 v4 : Value) : World := ((((w.setCell ⟨b, o, none⟩ v0).setCell ⟨b, o + 1, none⟩ v1).setCell ⟨b, o + 2, none⟩ v2).setCell ⟨b, o + 3, none⟩ v3).setCell ⟨b, o + 4, none⟩ v4
theorem put5_row {w : World} {b m : Nat} {t : TypeId} (h : Row w b t m) (b' o : Nat) (v0 v1 v2 v3 v4 : Value) : Row (put5 w b' o v0 v1 v2 v3 v4) b t m := ((((h.set _ _).set _ _).set _ _).set _ _).set _ _
theorem put5_heap (w : World) (b o : Nat) (v0 v1 v2 v3 v4 : Value) (k : Nat) (h : k ≠ b) : (put5 w b o v0 v1 v2 v3 v4).heap[k]? = w.heap[k]? := by
  unfold put5
  rw [Below.heap_setCell _ _ _ _ h, Below.heap_setCell _ _ _ _ h, Below.heap_setCell _ _ _ _ h, Below.heap_setCell _ _ _ _ h, Below.heap_setCell _ _ _ _ h]
theorem put5_size (w : World) (b o : Nat) (v0 v1 v2 v3 v4 : Value) : (put5 w b o v0 v1 v2 v3 v4).heap.size = w.heap.size := by simp [put5]
theorem put5_other (w : World) (b o : Nat) (v0 v1 v2 v3 v4 : Value) (o' : Nat) (h : o' < o ∨ o + 5 ≤ o') : (put5 w b o v0 v1 v2 v3 v4).cell? ⟨b, o', none⟩ = w.cell? ⟨b, o', none⟩ := by
  unfold put5
  rw [set_other _ _ _ _ _ _ (Or.inr (by omega)), set_other _ _ _ _ _ _ (Or.inr (by omega)), set_other _ _ _ _ _ _ (Or.inr (by omega)), set_other _ _ _ _ _ _ (Or.inr (by omega)), set_other _ _ _ _ _ _ (Or.inr (by omega))]
theorem put5_node {w : World} {b m : Nat} {ty : TypeId} (h : Row w b ty m) (o : Nat) (ho : o + 5 ≤ m) (T : VT) (x y : Value) : Node (put5 w b o (.int .i64 T.kd) (.int .i64 T.nm) (.string T.st) x y) ⟨b, o, none⟩ T x y := by
  unfold put5
  refine ⟨?_, ?_, ?_, ?_, ?_⟩
  · rw [set_other _ _ _ _ _ _ (Or.inr (by omega)), set_other _ _ _ _ _ _ (Or.inr (by omega)), set_other _ _ _ _ _ _ (Or.inr (by omega)), set_other _ _ _ _ _ _ (Or.inr (by omega))]
    exact set_same h (by omega) _
  · show World.cell? _ ⟨b, o + 1, none⟩ = _
    rw [set_other _ _ _ _ _ _ (Or.inr (by omega)), set_other _ _ _ _ _ _ (Or.inr (by omega)), set_other _ _ _ _ _ _ (Or.inr (by omega))]
    exact set_same (h.set _ _) (by omega) _
  · show World.cell? _ ⟨b, o + 2, none⟩ = _
    rw [set_other _ _ _ _ _ _ (Or.inr (by omega)), set_other _ _ _ _ _ _ (Or.inr (by omega))]
    exact set_same ((h.set _ _).set _ _) (by omega) _
  · show World.cell? _ ⟨b, o + 3, none⟩ = _
    rw [set_other _ _ _ _ _ _ (Or.inr (by omega))]
    exact set_same (((h.set _ _).set _ _).set _ _) (by omega) _
  · show World.cell? _ ⟨b, o + 4, none⟩ = _
    exact set_same ((((h.set _ _).set _ _).set _ _).set _ _) (by omega) _
theorem node_at {w w' : World} {b o : Nat} {T : VT} {x y : Value} (h : Node w ⟨b, o, none⟩ T x y) (e : ∀ i, i < 5 → w'.cell? ⟨b, o + i, none⟩ = w.cell? ⟨b, o + i, none⟩) : Node w' ⟨b, o, none⟩ T x y :=
  ⟨(e 0 (by omega)).trans h.1, (e 1 (by omega)).trans h.2.1, (e 2 (by omega)).trans h.2.2.1, (e 3 (by omega)).trans h.2.2.2.1, (e 4 (by omega)).trans h.2.2.2.2⟩
theorem add_at (b i : Nat) : Addr.add ⟨b, 0, none⟩ i = ⟨b, i, none⟩ := by
  simp only [Addr.add, Nat.zero_add]; split
  · next h0 => rw [h0]
  · rfl
theorem vkeeps {W V : World} (h : Below W.heap.size W V) : (∀ b o, b < W.heap.size → V.cell? ⟨b, o, none⟩ = W.cell? ⟨b, o, none⟩) ∧ ∀ b o, b < W.heap.size → V.frozen? ⟨b, o, none⟩ = W.frozen? ⟨b, o, none⟩ :=
  ⟨fun _ _ g => h.cell g, fun _ _ g => h.frozen g⟩
theorem Tryz.made27 (n : Nat) (h : n ≤ 1000000) (w : World) : (Instr.makeSlice 23 (.int .i64 (n : Int)) (.int .i64 (n : Int))).run Tryz.prog w = .ok (.slice (some ⟨w.heap.size, 0, none⟩) n n) (w.alloc (.cells (madeCells #[.int .i64 0, .int .i64 0, .string ⟨#[]⟩, .slice none 0 0, .slice none 0 0] (n * 5)) 26)) := by
  obtain ⟨i, hi, hz⟩ := Option.map_eq_some_iff.1 (show (Tryz.prog.info? 26).map (fun i => (i.zero, i.size, i.bytes)) = some (some (.agg #[.int .i64 0, .int .i64 0, .string ⟨#[]⟩, .slice none 0 0, .slice none 0 0]), 5, 80) by kernel_rfl)
  simp only [Prod.mk.injEq] at hz
  obtain ⟨hz, hs, hb⟩ := hz
  have := run_make (P := Tryz.prog) w 23 26 i _ Tryz.underlying23 hi hz .i64 .i64 n n (by omega) (Int.le_refl _) (by rw [hb]; omega) (by omega)
  rw [hs] at this
  simp only [Int.toNat_natCast] at this
  exact this
theorem Tryz.made34 (n : Nat) (h : n ≤ 1000000) (w : World) : (Instr.makeSlice 24 (.int .i64 (n : Int)) (.int .i64 (n : Int))).run Tryz.prog w = .ok (.slice (some ⟨w.heap.size, 0, none⟩) n n) (w.alloc (.cells (madeCells #[.string ⟨#[]⟩, .int .i64 0, .int .i64 0, .string ⟨#[]⟩, .slice none 0 0, .slice none 0 0] (n * 6)) 37)) := by
  obtain ⟨i, hi, hz⟩ := Option.map_eq_some_iff.1 (show (Tryz.prog.info? 37).map (fun i => (i.zero, i.size, i.bytes)) = some (some (.agg #[.string ⟨#[]⟩, .int .i64 0, .int .i64 0, .string ⟨#[]⟩, .slice none 0 0, .slice none 0 0]), 6, 96) by kernel_rfl)
  simp only [Prod.mk.injEq] at hz
  obtain ⟨hz, hs, hb⟩ := hz
  have := run_make (P := Tryz.prog) w 24 37 i _ Tryz.underlying24 hi hz .i64 .i64 n n (by omega) (Int.le_refl _) (by rw [hb]; omega) (by omega)
  rw [hs] at this
  simp only [Int.toNat_natCast] at this
  exact this
end Go.Proofs.YtnpojefcibfgkabGreatDoor
