/- Values in boxes, pairs and lists just written down. -/
import Derived.Test.YtjcejjejlekelaaGreatDoorVRise
import Derived.Test.YtjcejjejlekelaaGreatDoorVTextAll
namespace Go.Proofs.YtjcejjejlekelaaGreatDoor
open Go.RowKit

/-- a tree in a box -/
def Bx (w : World) (b : Nat) (T : VT) (x y : Value) : Prop := Node w ⟨b, 0, none⟩ T x y ∧ HV w T x y
theorem Bx.onto {w w' : World} {b : Nat} {T : VT} {x y : Value} (h : Bx w b T x y) (hb : Below w.heap.size w w') : Bx w' b T x y := ⟨h.1.onto hb, h.2.onto hb⟩
theorem Bx.cells {w : World} {b : Nat} {T : VT} {x y : Value} (h : Bx w b T x y) : w.cell? ⟨b, 0, none⟩ = some (.int .i64 T.kd) ∧ w.cell? ⟨b, 1, none⟩ = some (.int .i64 T.nm) ∧ w.cell? ⟨b, 2, none⟩ = some (.string T.st) ∧ w.cell? ⟨b, 3, none⟩ = some x ∧ w.cell? ⟨b, 4, none⟩ = some y := by
  have := h.1
  simp only [Node, Nat.zero_add] at this
  exact this
theorem bx_new {w : World} {T : VT} {x y : Value} (h : HV w T x y) (t : TypeId) : Bx (w.alloc (.cells #[.int .i64 T.kd, .int .i64 T.nm, .string T.st, x, y] t)) w.heap.size T x y := by
  refine ⟨⟨?_, ?_, ?_, ?_, ?_⟩, h.onto (valloc_bel (Below.refl _ _) _)⟩
  all_goals simp
/-- a pair's cells -/
def pc (a : ByteArray × VT × Value × Value) : List Value := [.string a.1, .int .i64 a.2.1.kd, .int .i64 a.2.1.nm, .string a.2.1.st, a.2.2.1, a.2.2.2]
def vc (a : VT × Value × Value) : List Value := [.int .i64 a.1.kd, .int .i64 a.1.nm, .string a.1.st, a.2.1, a.2.2]
theorem flat_at {α : Type} (f : α → List Value) (m : Nat) (hf : ∀ a, (f a).length = m) : ∀ (A : List α) (i c : Nat) (a : α), A[i]? = some a → c < m → (A.flatMap f)[i * m + c]? = (f a)[c]?
  | [], i, c, a, h, _ => by simp at h
  | b :: A, 0, c, a, h, hc => by
    simp at h; subst h
    rw [List.flatMap_cons, Nat.zero_mul, Nat.zero_add, List.getElem?_append_left (by rw [hf]; exact hc)]
  | b :: A, i + 1, c, a, h, hc => by
    simp at h
    rw [List.flatMap_cons, List.getElem?_append_right (by rw [hf, Nat.add_mul]; omega), hf, show (i + 1) * m + c - m = i * m + c by rw [Nat.add_mul]; omega]
    exact flat_at f m hf A i c a h hc
theorem in_pairs (w : World) (A : List (ByteArray × VT × Value × Value)) (ty : TypeId) (hA : ∀ a ∈ A, a.1.size ≤ maxLen ∧ HV w a.2.1 a.2.2.1 a.2.2.2) (hl : A.length ≤ maxLen) :
    InM (w.alloc (.cells (A.flatMap pc).toArray ty)) (A.map (·.1)) (A.map (·.2.1)) (.slice (some ⟨w.heap.size, 0, none⟩) A.length A.length) := by
  have key : ∀ (i : Nat) (a : ByteArray × VT × Value × Value), A[i]? = some a → ∀ (c : Nat) (u : Value), (pc a)[c]? = some u → (w.alloc (.cells (A.flatMap pc).toArray ty)).cell? ⟨w.heap.size, i * 6 + c, none⟩ = some u := by
    intro i a ha c u hu
    rw [World.cell?_alloc_new, List.getElem?_toArray, flat_at pc 6 (fun _ => rfl) A i c a ha (lt_of_some hu)]
    exact hu
  have hb := valloc_bel (Below.refl w.heap.size w) (.cells (A.flatMap pc).toArray ty)
  refine ⟨⟨w.heap.size, 0, none⟩, fun i => ((A[i]?).map fun a => a.2.2.1).getD .nilIface, fun i => ((A[i]?).map fun a => a.2.2.2).getD .nilIface, ⟨_, _, by simp, by simp, hl, fun _ => rfl⟩, by simp, fun i u hu => ?_, fun i t ht => ?_, fun i t ht => ?_⟩
  · rw [List.getElem?_map] at hu
    obtain ⟨a, ha, rfl⟩ := Option.map_eq_some_iff.1 hu
    rw [add_at]
    exact ⟨key i a ha 0 _ rfl, (hA a (List.mem_of_getElem? ha)).1⟩
  · rw [List.getElem?_map] at ht
    obtain ⟨a, ha, rfl⟩ := Option.map_eq_some_iff.1 ht
    rw [add_at]
    simp only [ha, Option.map_some, Option.getD_some]
    exact ⟨key i a ha 1 _ rfl, key i a ha 2 _ rfl, key i a ha 3 _ rfl, key i a ha 4 _ rfl, key i a ha 5 _ rfl⟩
  · rw [List.getElem?_map] at ht
    obtain ⟨a, ha, rfl⟩ := Option.map_eq_some_iff.1 ht
    simp only [ha, Option.map_some, Option.getD_some]
    exact (hA a (List.mem_of_getElem? ha)).2.onto hb
theorem in_list (w : World) (A : List (VT × Value × Value)) (ty : TypeId) (hA : ∀ a ∈ A, HV w a.1 a.2.1 a.2.2) (hl : A.length ≤ maxLen) :
    InL (w.alloc (.cells (A.flatMap vc).toArray ty)) (A.map (·.1)) (.slice (some ⟨w.heap.size, 0, none⟩) A.length A.length) := by
  have key : ∀ (i : Nat) (a : VT × Value × Value), A[i]? = some a → ∀ (c : Nat) (u : Value), (vc a)[c]? = some u → (w.alloc (.cells (A.flatMap vc).toArray ty)).cell? ⟨w.heap.size, i * 5 + c, none⟩ = some u := by
    intro i a ha c u hu
    rw [World.cell?_alloc_new, List.getElem?_toArray, flat_at vc 5 (fun _ => rfl) A i c a ha (lt_of_some hu)]
    exact hu
  have hb := valloc_bel (Below.refl w.heap.size w) (.cells (A.flatMap vc).toArray ty)
  refine ⟨⟨w.heap.size, 0, none⟩, fun i => ((A[i]?).map fun a => a.2.1).getD .nilIface, fun i => ((A[i]?).map fun a => a.2.2).getD .nilIface, ⟨_, _, by simp, by simp, hl, fun _ => rfl⟩, fun i t ht => ?_, fun i t ht => ?_⟩
  · rw [List.getElem?_map] at ht
    obtain ⟨a, ha, rfl⟩ := Option.map_eq_some_iff.1 ht
    rw [add_at]
    simp only [ha, Option.map_some, Option.getD_some]
    exact ⟨key i a ha 0 _ rfl, key i a ha 1 _ rfl, key i a ha 2 _ rfl, key i a ha 3 _ rfl, key i a ha 4 _ rfl⟩
  · rw [List.getElem?_map] at ht
    obtain ⟨a, ha, rfl⟩ := Option.map_eq_some_iff.1 ht
    simp only [ha, Option.map_some, Option.getD_some]
    exact (hA a (List.mem_of_getElem? ha)).onto hb
/-- a map's first pair -/
theorem first_pair {w : World} {K : List ByteArray} {V : List VT} {x : Value} {c : ByteArray} {t : VT} (h : InM w K V x) (hc : K[0]? = some c) (ht : V[0]? = some t) : ∃ (a : Addr) (cap : Nat), x = .slice (some a) V.length cap ∧ w.cell? a = some (.string c) ∧ w.cell? ⟨a.block, a.off + 2, none⟩ = some (.int .i64 t.nm) := by
  obtain ⟨a, p, q, ⟨o, cap, rfl, -, -, ho⟩, -, cK, cM, -⟩ := h
  refine ⟨a, cap, by rw [ho (lt_of_some ht)], ?_, ?_⟩
  · have := (cK 0 c hc).1
    simpa [Addr.add] using this
  · have := (cM 0 t ht).2.1
    simpa [Addr.add, nx] using this
end Go.Proofs.YtjcejjejlekelaaGreatDoor
