/- Trees of values as they lie in memory: my own trees, where one lies, and that an argument is one. -/
import Derived.Test.YtnpojefcibfgkabGreatDoorBase
import Derived.ChangeArms
import Derived.DataElems
namespace Go.Proofs.YtnpojefcibfgkabGreatDoor
open Go.RowKit

/-- a tree: kind, number, text, a list's parts, a map's keys and their values -/
inductive VT where
  | mk (k n : Int) (s : ByteArray) (L : List VT) (K : List ByteArray) (V : List VT)
namespace VT
def kd : VT → Int | mk k _ _ _ _ _ => k
def nm : VT → Int | mk _ n _ _ _ _ => n
def st : VT → ByteArray | mk _ _ s _ _ _ => s
def ls : VT → List VT | mk _ _ _ L _ _ => L
def ks : VT → List ByteArray | mk _ _ _ _ K _ => K
def vs : VT → List VT | mk _ _ _ _ _ V => V
end VT
mutual
def szT : VT → Nat
  | .mk _ _ _ L _ V => 1 + szL L + szL V
def szL : List VT → Nat
  | [] => 0
  | t :: r => szT t + szL r
end
theorem szT_pos (T : VT) : 1 ≤ szT T := by cases T; simp only [szT]; omega
theorem szL_get : ∀ (L : List VT) (i : Nat) (t : VT), L[i]? = some t → szT t ≤ szL L
  | [], i, t, h => by simp at h
  | a :: r, 0, t, h => by simp at h; subst h; simp only [szL]; omega
  | a :: r, i + 1, t, h => by
    simp at h
    have := szL_get r i t h
    simp only [szL]; omega
theorem szT_ls (T : VT) (i : Nat) (t : VT) (h : T.ls[i]? = some t) : szT t < szT T := by
  cases T with
  | mk k n s L K V => have := szL_get L i t h; simp only [szT]; omega
theorem szT_vs (T : VT) (i : Nat) (t : VT) (h : T.vs[i]? = some t) : szT t < szT T := by
  cases T with
  | mk k n s L K V => have := szL_get V i t h; simp only [szT]; omega
/-- a value's five cells -/
def Node (w : World) (a : Addr) (T : VT) (x y : Value) : Prop :=
  w.cell? a = some (.int .i64 T.kd) ∧ w.cell? ⟨a.block, a.off + 1, none⟩ = some (.int .i64 T.nm) ∧ w.cell? ⟨a.block, a.off + 2, none⟩ = some (.string T.st) ∧ w.cell? ⟨a.block, a.off + 3, none⟩ = some x ∧ w.cell? ⟨a.block, a.off + 4, none⟩ = some y
/-- a slice of so many -/
def SlOf (v : Value) (a : Addr) (n : Nat) : Prop := ∃ (o : Option Addr) (cap : Nat), v = .slice o n cap ∧ n ≤ cap ∧ cap ≤ maxLen ∧ (0 < n → o = some a)
/-- the cell behind a cell -/
def nx (a : Addr) : Addr := ⟨a.block, a.off + 1, none⟩
/-- a tree lies in memory behind its two slices -/
inductive HV (w : World) : VT → Value → Value → Prop
  | mk {k n : Int} {s : ByteArray} {L : List VT} {K : List ByteArray} {V : List VT} {x y : Value} (a b : Addr) (f g p q : Nat → Value)
      (hk : (Lit.int .i64 k).wf = true) (hn : (Lit.int .i64 n).wf = true) (hs : s.size ≤ maxLen)
      (hL : SlOf x a L.length) (hM : SlOf y b V.length) (hK : K.length = V.length)
      (cL : ∀ i t, L[i]? = some t → Node w (a.add (i * 5)) t (f i) (g i))
      (cK : ∀ i u, K[i]? = some u → w.cell? (b.add (i * 6)) = some (.string u) ∧ u.size ≤ maxLen)
      (cM : ∀ i t, V[i]? = some t → Node w (nx (b.add (i * 6))) t (p i) (q i))
      (rL : ∀ i t, L[i]? = some t → HV w t (f i) (g i))
      (rM : ∀ i t, V[i]? = some t → HV w t (p i) (q i)) : HV w (.mk k n s L K V) x y
/-- the value that a tree is -/
def vv (T : VT) (x y : Value) : Value := .agg #[.int .i64 T.kd, .int .i64 T.nm, .string T.st, x, y]
theorem keepCell {w w' : World} (hb : Below w.heap.size w w') {a : Addr} {v : Value} (hc : w.cell? a = some v) : w'.cell? a = some v := by
  rw [hb.cell (World.block_lt_of_cell? w a hc)]; exact hc
theorem Node.onto {w w' : World} {a : Addr} {T : VT} {x y : Value} (h : Node w a T x y) (hb : Below w.heap.size w w') : Node w' a T x y :=
  ⟨keepCell hb h.1, keepCell hb h.2.1, keepCell hb h.2.2.1, keepCell hb h.2.2.2.1, keepCell hb h.2.2.2.2⟩
theorem HV.onto {w w' : World} {T : VT} {x y : Value} (h : HV w T x y) (hb : Below w.heap.size w w') : HV w' T x y := by
  induction h with
  | mk a b f g p q hk hn hs hL hM hK cL cK cM _ _ ihL ihM =>
    exact .mk a b f g p q hk hn hs hL hM hK (fun i t h => (cL i t h).onto hb) (fun i u h => ⟨keepCell hb (cK i u h).1, (cK i u h).2⟩) (fun i t h => (cM i t h).onto hb) ihL ihM
theorem cells5 {w : World} {base : Nat} {a : Addr} {cs : List Value} (h : w.cells? base a 5 = some cs) : ∃ c0 c1 c2 c3 c4, cs = [c0, c1, c2, c3, c4] ∧ w.cell? a = some c0 ∧ w.cell? (a.add 1) = some c1 ∧ w.cell? (a.add 2) = some c2 ∧ w.cell? (a.add 3) = some c3 ∧ w.cell? (a.add 4) = some c4 := by
  unfold World.cells? at h
  split at h
  · simp only [show List.range 5 = [0, 1, 2, 3, 4] from rfl, List.mapM_cons, List.mapM_nil] at h
    rw [show a.add 0 = a by simp [Addr.add]] at h
    cases h0 : w.cell? a <;> simp [h0] at h
    cases h1 : w.cell? (a.add 1) <;> simp [h1] at h
    cases h2 : w.cell? (a.add 2) <;> simp [h2] at h
    cases h3 : w.cell? (a.add 3) <;> simp [h3] at h
    cases h4 : w.cell? (a.add 4) <;> simp [h4] at h
    exact ⟨_, _, _, _, _, h.symm, rfl, rfl, rfl, rfl, rfl⟩
  · cases h
theorem cells6 {w : World} {base : Nat} {a : Addr} {cs : List Value} (h : w.cells? base a 6 = some cs) : ∃ c0 c1 c2 c3 c4 c5, cs = [c0, c1, c2, c3, c4, c5] ∧ w.cell? a = some c0 ∧ w.cell? (a.add 1) = some c1 ∧ w.cell? (a.add 2) = some c2 ∧ w.cell? (a.add 3) = some c3 ∧ w.cell? (a.add 4) = some c4 ∧ w.cell? (a.add 5) = some c5 := by
  unfold World.cells? at h
  split at h
  · simp only [show List.range 6 = [0, 1, 2, 3, 4, 5] from rfl, List.mapM_cons, List.mapM_nil] at h
    rw [show a.add 0 = a by simp [Addr.add]] at h
    cases h0 : w.cell? a <;> simp [h0] at h
    cases h1 : w.cell? (a.add 1) <;> simp [h1] at h
    cases h2 : w.cell? (a.add 2) <;> simp [h2] at h
    cases h3 : w.cell? (a.add 3) <;> simp [h3] at h
    cases h4 : w.cell? (a.add 4) <;> simp [h4] at h
    cases h5 : w.cell? (a.add 5) <;> simp [h5] at h
    exact ⟨_, _, _, _, _, _, h.symm, rfl, rfl, rfl, rfl, rfl, rfl⟩
  · cases h
theorem Tryz.cells27 : Tryz.prog.cellsOf 26 = 5 := by kernel_rfl
theorem Tryz.cells34 : Tryz.prog.cellsOf 37 = 6 := by kernel_rfl
theorem Tryz.cells9 : Tryz.prog.cellsOf 9 = 1 := by kernel_rfl
theorem Tryz.cells2 : Tryz.prog.cellsOf 2 = 1 := by kernel_rfl
theorem Tryz.cells23 : Tryz.prog.cellsOf 22 = 1 := by kernel_rfl
theorem Tryz.cells24 : Tryz.prog.cellsOf 23 = 1 := by kernel_rfl
theorem Tryz.cells25 : Tryz.prog.cellsOf 24 = 1 := by kernel_rfl
theorem range_get (len : Nat) (f : Nat → VT) (i : Nat) (t : VT) (h : ((List.range len).map f)[i]? = some t) : i < len ∧ t = f i := by
  rw [List.getElem?_map] at h
  by_cases hi : i < len
  · rw [List.getElem?_range hi] at h; simp at h; exact ⟨hi, h.symm⟩
  · rw [List.getElem?_eq_none (by simp; omega)] at h; simp at h
theorem list5 {cs : List Value} (h : cs.length = 5) : ∃ c0 c1 c2 c3 c4, cs = [c0, c1, c2, c3, c4] := by
  match cs, h with
  | [c0, c1, c2, c3, c4], _ => exact ⟨c0, c1, c2, c3, c4, rfl⟩
theorem list6 {cs : List Value} (h : cs.length = 6) : ∃ c0 c1 c2 c3 c4 c5, cs = [c0, c1, c2, c3, c4, c5] := by
  match cs, h with
  | [c0, c1, c2, c3, c4, c5], _ => exact ⟨c0, c1, c2, c3, c4, c5, rfl⟩
theorem some_at {α : Type} {xs : List α} {n i : Nat} (h : xs.length = n) (hi : i < n) : ∃ y, xs[i]? = some y := ⟨xs[i]'(by omega), List.getElem?_eq_getElem (by omega)⟩
section
variable {H : Type} {enc : TypeId × Value → H} {w : World} {base : Nat} {spare : Nat → Bool} {held : Bool}
/-- an argument is a tree -/
theorem tree_of : ∀ (fuel : Nat) (cs : List Value) (x : DataW H × List MemPlace), DataW.trod enc Tryz.prog w base spare held fuel 26 cs = some x →
    ∃ (T : VT) (vx vy : Value), cs = [.int .i64 T.kd, .int .i64 T.nm, .string T.st, vx, vy] ∧ HV w T vx vy := by
  intro fuel
  induction fuel using Nat.strongRecOn with
  | _ fuel ih =>
  intro cs x h
  obtain ⟨xs, m, rfl, -, hl, hlen, hf⟩ := DataW.trod_struct Tryz.underlying26 h
  rw [Tryz.cells27] at hl
  obtain ⟨c0, c1, c2, c3, c4, rfl⟩ := list5 hl
  have hlen5 : xs.length = 5 := hlen
  obtain ⟨y0, e0⟩ := some_at hlen5 (show 0 < 5 by omega)
  obtain ⟨y1, e1⟩ := some_at hlen5 (show 1 < 5 by omega)
  obtain ⟨y2, e2⟩ := some_at hlen5 (show 2 < 5 by omega)
  obtain ⟨y3, e3⟩ := some_at hlen5 (show 3 < 5 by omega)
  obtain ⟨y4, e4⟩ := some_at hlen5 (show 4 < 5 by omega)
  have f0 : DataW.trod enc Tryz.prog w base spare held m 22 [c0] = some y0 := by
    have := (hf 0 { name := "Kind", type := 22, offset := 0, embedded := false, tag := "", pkgPath := "", byteOffset := 0 } rfl).trans e0
    dsimp only at this
    rw [Tryz.cells23] at this
    exact this
  have f1 : DataW.trod enc Tryz.prog w base spare held m 2 [c1] = some y1 := by
    have := (hf 1 { name := "N", type := 2, offset := 1, embedded := false, tag := "", pkgPath := "", byteOffset := 8 } rfl).trans e1
    dsimp only at this
    rw [Tryz.cells2] at this
    exact this
  have f2 : DataW.trod enc Tryz.prog w base spare held m 9 [c2] = some y2 := by
    have := (hf 2 { name := "S", type := 9, offset := 2, embedded := false, tag := "", pkgPath := "", byteOffset := 16 } rfl).trans e2
    dsimp only at this
    rw [Tryz.cells9] at this
    exact this
  have f3 : DataW.trod enc Tryz.prog w base spare held m 23 [c3] = some y3 := by
    have := (hf 3 { name := "L", type := 23, offset := 3, embedded := false, tag := "", pkgPath := "", byteOffset := 32 } rfl).trans e3
    dsimp only at this
    rw [Tryz.cells24] at this
    exact this
  have f4 : DataW.trod enc Tryz.prog w base spare held m 24 [c4] = some y4 := by
    have := (hf 4 { name := "M", type := 24, offset := 4, embedded := false, tag := "", pkgPath := "", byteOffset := 56 } rfl).trans e4
    dsimp only at this
    rw [Tryz.cells25] at this
    exact this
  obtain ⟨k, hk0, -, hk⟩ := DataW.trod_int Tryz.underlying22 f0
  obtain ⟨n, hn0, -, hn⟩ := DataW.trod_int Tryz.underlying2 f1
  obtain ⟨s, hs0, -, hs⟩ := DataW.trod_string Tryz.underlying9 f2
  cases hk0
  cases hn0
  cases hs0
  -- the list's parts
  have hLs : ∃ (a : Addr) (L : List VT) (f g : Nat → Value), SlOf c3 a L.length ∧ (∀ i t, L[i]? = some t → Node w (a.add (i * 5)) t (f i) (g i)) ∧ (∀ i t, L[i]? = some t → HV w t (f i) (g i)) := by
    rcases DataW.trod_slice Tryz.underlying23 f3 with ⟨hc, -⟩ | ⟨a, len, cap, elems, rest, m2, hm2, hc, -, -, hlc, hcm, hel, hget, -, -⟩
    · cases hc
      exact ⟨default, [], fun _ => .nilIface, fun _ => .nilIface, ⟨none, 0, rfl, Nat.le_refl _, Nat.zero_le _, fun h => absurd h (by simp)⟩, fun i t h => by simp at h, fun i t h => by simp at h⟩
    · cases hc
      have key : ∀ i, ∃ r : VT × Value × Value, i < len → Node w (a.add (i * 5)) r.1 r.2.1 r.2.2 ∧ HV w r.1 r.2.1 r.2.2 := by
        intro i
        by_cases hi : i < len
        · obtain ⟨z, ez⟩ := some_at hel hi
          have hg := (hget i hi).trans ez
          rw [Tryz.cells27] at hg
          obtain ⟨cs', h1, h2⟩ := Option.bind_eq_some_iff.1 hg
          obtain ⟨T, vx, vy, rfl, hT⟩ := ih m2 (by omega) cs' z h2
          obtain ⟨d0, d1, d2, d3, d4, he, g0, g1, g2, g3, g4⟩ := cells5 h1
          cases he
          exact ⟨(T, vx, vy), fun _ => ⟨⟨g0, g1, g2, g3, g4⟩, hT⟩⟩
        · exact ⟨(.mk 0 0 ⟨#[]⟩ [] [] [], .nilIface, .nilIface), fun h => absurd h hi⟩
      obtain ⟨F, hF⟩ := Classical.axiomOfChoice key
      refine ⟨a, (List.range len).map fun i => (F i).1, fun i => (F i).2.1, fun i => (F i).2.2, ⟨some a, cap, by simp, by simpa using hlc, hcm, fun _ => rfl⟩, fun i t h => ?_, fun i t h => ?_⟩
      · obtain ⟨hi, rfl⟩ := range_get _ _ _ _ h; exact (hF i hi).1
      · obtain ⟨hi, rfl⟩ := range_get _ _ _ _ h; exact (hF i hi).2
  -- the map's pairs
  have hMs : ∃ (b : Addr) (K : List ByteArray) (V : List VT) (p q : Nat → Value), SlOf c4 b V.length ∧ K.length = V.length ∧ (∀ i u, K[i]? = some u → w.cell? (b.add (i * 6)) = some (.string u) ∧ u.size ≤ maxLen) ∧
      (∀ i t, V[i]? = some t → Node w (nx (b.add (i * 6))) t (p i) (q i)) ∧ (∀ i t, V[i]? = some t → HV w t (p i) (q i)) := by
    rcases DataW.trod_slice Tryz.underlying24 f4 with ⟨hc, -⟩ | ⟨a, len, cap, elems, rest, m2, hm2, hc, -, -, hlc, hcm, hel, hget, -, -⟩
    · cases hc
      exact ⟨default, [], [], fun _ => .nilIface, fun _ => .nilIface, ⟨none, 0, rfl, Nat.le_refl _, Nat.zero_le _, fun h => absurd h (by simp)⟩, rfl, fun i t h => by simp at h, fun i t h => by simp at h, fun i t h => by simp at h⟩
    · cases hc
      have key : ∀ i, ∃ r : ByteArray × VT × Value × Value, i < len → (w.cell? (a.add (i * 6)) = some (.string r.1) ∧ r.1.size ≤ maxLen) ∧ Node w (nx (a.add (i * 6))) r.2.1 r.2.2.1 r.2.2.2 ∧ HV w r.2.1 r.2.2.1 r.2.2.2 := by
        intro i
        by_cases hi : i < len
        · obtain ⟨z, ez⟩ := some_at hel hi
          have hg := (hget i hi).trans ez
          rw [Tryz.cells34] at hg
          obtain ⟨cs', h1, h2⟩ := Option.bind_eq_some_iff.1 hg
          obtain ⟨ys, m3, hm3, -, hl2, hlen2, hf2⟩ := DataW.trod_struct Tryz.underlying37 h2
          obtain ⟨d0, d1, d2, d3, d4, d5, he, g0, g1, g2, g3, g4, g5⟩ := cells6 h1
          cases he
          have hlen2' : ys.length = 2 := hlen2
          obtain ⟨z0, ez0⟩ := some_at hlen2' (show 0 < 2 by omega)
          obtain ⟨z1, ez1⟩ := some_at hlen2' (show 1 < 2 by omega)
          have k0 : DataW.trod enc Tryz.prog w base spare held m3 9 [d0] = some z0 := by
            have := (hf2 0 { name := "Key", type := 9, offset := 0, embedded := false, tag := "", pkgPath := "", byteOffset := 0 } rfl).trans ez0
            dsimp only at this
            rw [Tryz.cells9] at this
            exact this
          have k1 : DataW.trod enc Tryz.prog w base spare held m3 26 [d1, d2, d3, d4, d5] = some z1 := by
            have := (hf2 1 { name := "V", type := 26, offset := 1, embedded := false, tag := "", pkgPath := "", byteOffset := 16 } rfl).trans ez1
            dsimp only at this
            rw [Tryz.cells27] at this
            exact this
          obtain ⟨u, hu0, -, hu⟩ := DataW.trod_string Tryz.underlying9 k0
          cases hu0
          obtain ⟨T, vx, vy, hT0, hT⟩ := ih m3 (by omega) _ z1 k1
          cases hT0
          exact ⟨(u, T, _, _), fun _ => ⟨⟨g0, hu⟩, ⟨g1, g2, g3, g4, g5⟩, hT⟩⟩
        · exact ⟨(⟨#[]⟩, .mk 0 0 ⟨#[]⟩ [] [] [], .nilIface, .nilIface), fun h => absurd h hi⟩
      obtain ⟨F, hF⟩ := Classical.axiomOfChoice key
      refine ⟨a, (List.range len).map fun i => (F i).1, (List.range len).map fun i => (F i).2.1, fun i => (F i).2.2.1, fun i => (F i).2.2.2, ⟨some a, cap, by simp, by simpa using hlc, hcm, fun _ => rfl⟩, by simp, fun i u h => ?_, fun i t h => ?_, fun i t h => ?_⟩
      · rw [List.getElem?_map] at h
        by_cases hi : i < len
        · rw [List.getElem?_range hi] at h; simp at h; subst h; exact (hF i hi).1
        · rw [List.getElem?_eq_none (by simp; omega)] at h; simp at h
      · obtain ⟨hi, rfl⟩ := range_get _ _ _ _ h; exact (hF i hi).2.1
      · obtain ⟨hi, rfl⟩ := range_get _ _ _ _ h; exact (hF i hi).2.2
  obtain ⟨a, L, f, g, hL, cL, rL⟩ := hLs
  obtain ⟨b, K, V, p, q, hM, hK, cK, cM, rM⟩ := hMs
  exact ⟨.mk k n s L K V, c3, c4, rfl, .mk a b f g p q hk hn hs hL hM hK cL cK cM rL rM⟩
end
end Go.Proofs.YtnpojefcibfgkabGreatDoor
