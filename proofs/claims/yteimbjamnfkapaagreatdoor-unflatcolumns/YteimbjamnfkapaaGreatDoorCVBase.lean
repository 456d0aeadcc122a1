import Derived.Test.YteimbjamnfkapaaGreatDoorCBase
import Derived.ChangeArms
import Derived.DataElems
import Derived.Laws.MakeOwn
import Derived.Lib.Strings
/- Trees of values as they lie in memory: my own trees, where one lies, and that an argument is one. -/
/- Trees that lie in blocks of their own, and changes that keep to some blocks. -/
/- How many nodes a tree has, and how deep it is. -/
/- Rows of cells in a block of one's own: what may be stored there, and what lies there then. -/
/- The value of a key. -/
namespace Go.Proofs.YteimbjamnfkapaaGreatDoor
open Go.RowKit
inductive VT where
 | mk (k n : Int) (s : ByteArray) (L : List VT) (K : List ByteArray) (V : List VT)
namespace VT
def kd : VT → Int | mk k _ _ _ _ _ => k
def nm : VT → Int | mk _ n _ _ _ _ => n
def st : VT → ByteArray | mk _ _ s _ _ _ => s
def ls : VT → List VT | mk _ _ _ L _ _ => L
def ks : VT → List ByteArray | mk _ _ _ _ K _ => K
def vs : VT → List VT | mk _ _ _ _ _ V => V
end VT
mutual
def szT : VT → Nat
 | .mk _ _ _ L _ V => 1 + szL L + szL V
def szL : List VT → Nat
 | [] => 0
 | t :: r => szT t + szL r
end
theorem szT_pos (T : VT) : 1 ≤ szT T := by cases T; simp only [szT]; omega
theorem szL_get : ∀ (L : List VT) (i : Nat) (t : VT), L[i]? = some t → szT t ≤ szL L
 | [], i, t, h => by simp at h
 | a :: r, 0, t, h => by simp at h; subst h; simp only [szL]; omega
 | a :: r, i + 1, t, h => by
  simp at h
  have := szL_get r i t h
  simp only [szL]; omega
theorem szT_ls (T : VT) (i : Nat) (t : VT) (h : T.ls[i]? = some t) : szT t < szT T := by
 cases T with
 | mk k n s L K V => have := szL_get L i t h; simp only [szT]; omega
theorem szT_vs (T : VT) (i : Nat) (t : VT) (h : T.vs[i]? = some t) : szT t < szT T := by
 cases T with
 | mk k n s L K V => have := szL_get V i t h; simp only [szT]; omega
def Node (w : World) (a : Addr) (T : VT) (x y : Value) : Prop :=
 w.cell? a = some (.int .i64 T.kd) ∧ w.cell? ⟨a.block, a.off + 1, none⟩ = some (.int .i64 T.nm) ∧ w.cell? ⟨a.block, a.off + 2, none⟩ = some (.string T.st) ∧ w.cell? ⟨a.block, a.off + 3, none⟩ = some x ∧ w.cell? ⟨a.block, a.off + 4, none⟩ = some y
def SlOf (v : Value) (a : Addr) (n : Nat) : Prop := ∃ (o : Option Addr) (cap : Nat), v = .slice o n cap ∧ n ≤ cap ∧ cap ≤ maxLen ∧ (0 < n → o = some a)
def nx (a : Addr) : Addr := ⟨a.block, a.off + 1, none⟩
inductive HV (w : World) : VT → Value → Value → Prop
 | mk {k n : Int} {s : ByteArray} {L : List VT} {K : List ByteArray} {V : List VT} {x y : Value} (a b : Addr) (f g p q : Nat → Value)
   (hk : (Lit.int .i64 k).wf = true) (hn : (Lit.int .i64 n).wf = true) (hs : s.size ≤ maxLen)
   (hL : SlOf x a L.length) (hM : SlOf y b V.length) (hK : K.length = V.length)
   (cL : ∀ i t, L[i]? = some t → Node w (a.add (i * 5)) t (f i) (g i))
   (cK : ∀ i u, K[i]? = some u → w.cell? (b.add (i * 6)) = some (.string u) ∧ u.size ≤ maxLen)
   (cM : ∀ i t, V[i]? = some t → Node w (nx (b.add (i * 6))) t (p i) (q i))
   (rL : ∀ i t, L[i]? = some t → HV w t (f i) (g i))
   (rM : ∀ i t, V[i]? = some t → HV w t (p i) (q i)) : HV w (.mk k n s L K V) x y
def vv (T : VT) (x y : Value) : Value := .agg #[.int .i64 T.kd, .int .i64 T.nm, .string T.st, x, y]
theorem keepCell {w w' : World} (hb : Below w.heap.size w w') {a : Addr} {v : Value} (hc : w.cell? a = some v) : w'.cell? a = some v := by
 rw [hb.cell (World.block_lt_of_cell? w a hc)]; exact hc
theorem Node.onto {w w' : World} {a : Addr} {T : VT} {x y : Value} (h : Node w a T x y) (hb : Below w.heap.size w w') : Node w' a T x y :=
 ⟨keepCell hb h.1, keepCell hb h.2.1, keepCell hb h.2.2.1, keepCell hb h.2.2.2.1, keepCell hb h.2.2.2.2⟩
theorem HV.onto {w w' : World} {T : VT} {x y : Value} (h : HV w T x y) (hb : Below w.heap.size w w') : HV w' T x y := by
 induction h with
 | mk a b f g p q hk hn hs hL hM hK cL cK cM _ _ ihL ihM =>
  exact .mk a b f g p q hk hn hs hL hM hK (fun i t h => (cL i t h).onto hb) (fun i u h => ⟨keepCell hb (cK i u h).1, (cK i u h).2⟩) (fun i t h => (cM i t h).onto hb) ihL ihM
theorem cells5 {w : World} {base : Nat} {a : Addr} {cs : List Value} (h : w.cells? base a 5 = some cs) : ∃ c0 c1 c2 c3 c4, cs = [c0, c1, c2, c3, c4] ∧ w.cell? a = some c0 ∧ w.cell? (a.add 1) = some c1 ∧ w.cell? (a.add 2) = some c2 ∧ w.cell? (a.add 3) = some c3 ∧ w.cell? (a.add 4) = some c4 := by
 unfold World.cells? at h
 split at h
 ·simp only [show List.range 5 = [0, 1, 2, 3, 4] from rfl, List.mapM_cons, List.mapM_nil] at h
  rw [show a.add 0 = a by simp [Addr.add]] at h
  cases h0 : w.cell? a <;> simp [h0] at h
  cases h1 : w.cell? (a.add 1) <;> simp [h1] at h
  cases h2 : w.cell? (a.add 2) <;> simp [h2] at h
  cases h3 : w.cell? (a.add 3) <;> simp [h3] at h
  cases h4 : w.cell? (a.add 4) <;> simp [h4] at h
  exact ⟨_, _, _, _, _, h.symm, rfl, rfl, rfl, rfl, rfl⟩
 ·cases h
theorem cells6 {w : World} {base : Nat} {a : Addr} {cs : List Value} (h : w.cells? base a 6 = some cs) : ∃ c0 c1 c2 c3 c4 c5, cs = [c0, c1, c2, c3, c4, c5] ∧ w.cell? a = some c0 ∧ w.cell? (a.add 1) = some c1 ∧ w.cell? (a.add 2) = some c2 ∧ w.cell? (a.add 3) = some c3 ∧ w.cell? (a.add 4) = some c4 ∧ w.cell? (a.add 5) = some c5 := by
 unfold World.cells? at h
 split at h
 ·simp only [show List.range 6 = [0, 1, 2, 3, 4, 5] from rfl, List.mapM_cons, List.mapM_nil] at h
  rw [show a.add 0 = a by simp [Addr.add]] at h
  cases h0 : w.cell? a <;> simp [h0] at h
  cases h1 : w.cell? (a.add 1) <;> simp [h1] at h
  cases h2 : w.cell? (a.add 2) <;> simp [h2] at h
  cases h3 : w.cell? (a.add 3) <;> simp [h3] at h
  cases h4 : w.cell? (a.add 4) <;> simp [h4] at h
  cases h5 : w.cell? (a.add 5) <;> simp [h5] at h
  exact ⟨_, _, _, _, _, _, h.symm, rfl, rfl, rfl, rfl, rfl, rfl⟩
 ·cases h
theorem Tryz.cells27 : Tryz.prog.cellsOf 29 = 5 := by kernel_rfl
theorem Tryz.cells34 : Tryz.prog.cellsOf 60 = 6 := by kernel_rfl
theorem Tryz.cells9 : Tryz.prog.cellsOf 9 = 1 := by kernel_rfl
theorem Tryz.cells2 : Tryz.prog.cellsOf 2 = 1 := by kernel_rfl
theorem Tryz.cells23 : Tryz.prog.cellsOf 25 = 1 := by kernel_rfl
theorem Tryz.cells24 : Tryz.prog.cellsOf 26 = 1 := by kernel_rfl
theorem Tryz.cells25 : Tryz.prog.cellsOf 27 = 1 := by kernel_rfl
theorem range_get (len : Nat) (f : Nat → VT) (i : Nat) (t : VT) (h : ((List.range len).map f)[i]? = some t) : i < len ∧ t = f i := by
 rw [List.getElem?_map] at h
 by_cases hi : i < len
 ·rw [List.getElem?_range hi] at h; simp at h; exact ⟨hi, h.symm⟩
 ·rw [List.getElem?_eq_none (by simp; omega)] at h; simp at h
theorem list5 {cs : List Value} (h : cs.length = 5) : ∃ c0 c1 c2 c3 c4, cs = [c0, c1, c2, c3, c4] := by
 match cs, h with
 | [c0, c1, c2, c3, c4], _ => exact ⟨c0, c1, c2, c3, c4, rfl⟩
theorem some_at {α : Type} {xs : List α} {n i : Nat} (h : xs.length = n) (hi : i < n) : ∃ y, xs[i]? = some y := ⟨xs[i]'(by omega), List.getElem?_eq_getElem (by omega)⟩
section
variable {H : Type} {enc : TypeId × Value → H} {w : World} {base : Nat} {spare : Nat → Bool} {held : Bool}
theorem tree_of : ∀ (fuel : Nat) (cs : List Value) (x : DataW H × List MemPlace), DataW.trod enc Tryz.prog w base spare held fuel 29 cs = some x →
  ∃ (T : VT) (vx vy : Value), cs = [.int .i64 T.kd, .int .i64 T.nm, .string T.st, vx, vy] ∧ HV w T vx vy := by
 intro fuel
 induction fuel using Nat.strongRecOn with
 | _ fuel ih =>
 intro cs x h
 obtain ⟨xs, m, rfl, -, hl, hlen, hf⟩ := DataW.trod_struct Tryz.underlying29 h
 rw [Tryz.cells27] at hl
 obtain ⟨c0, c1, c2, c3, c4, rfl⟩ := list5 hl
 have hlen5 : xs.length = 5 := hlen
 obtain ⟨y0, e0⟩ := some_at hlen5 (show 0 < 5 by omega)
 obtain ⟨y1, e1⟩ := some_at hlen5 (show 1 < 5 by omega)
 obtain ⟨y2, e2⟩ := some_at hlen5 (show 2 < 5 by omega)
 obtain ⟨y3, e3⟩ := some_at hlen5 (show 3 < 5 by omega)
 obtain ⟨y4, e4⟩ := some_at hlen5 (show 4 < 5 by omega)
 have f0 : DataW.trod enc Tryz.prog w base spare held m 25 [c0] = some y0 := by
  have := (hf 0 { name := "Kind", type := 25, offset := 0, embedded := false, tag := "", pkgPath := "", byteOffset := 0 } rfl).trans e0
  dsimp only at this
  rw [Tryz.cells23] at this
  exact this
 have f1 : DataW.trod enc Tryz.prog w base spare held m 2 [c1] = some y1 := by
  have := (hf 1 { name := "N", type := 2, offset := 1, embedded := false, tag := "", pkgPath := "", byteOffset := 8 } rfl).trans e1
  dsimp only at this
  rw [Tryz.cells2] at this
  exact this
 have f2 : DataW.trod enc Tryz.prog w base spare held m 9 [c2] = some y2 := by
  have := (hf 2 { name := "S", type := 9, offset := 2, embedded := false, tag := "", pkgPath := "", byteOffset := 16 } rfl).trans e2
  dsimp only at this
  rw [Tryz.cells9] at this
  exact this
 have f3 : DataW.trod enc Tryz.prog w base spare held m 26 [c3] = some y3 := by
  have := (hf 3 { name := "L", type := 26, offset := 3, embedded := false, tag := "", pkgPath := "", byteOffset := 32 } rfl).trans e3
  dsimp only at this
  rw [Tryz.cells24] at this
  exact this
 have f4 : DataW.trod enc Tryz.prog w base spare held m 27 [c4] = some y4 := by
  have := (hf 4 { name := "M", type := 27, offset := 4, embedded := false, tag := "", pkgPath := "", byteOffset := 56 } rfl).trans e4
  dsimp only at this
  rw [Tryz.cells25] at this
  exact this
 obtain ⟨k, hk0, -, hk⟩ := DataW.trod_int Tryz.underlying25 f0
 obtain ⟨n, hn0, -, hn⟩ := DataW.trod_int Tryz.underlying2 f1
 obtain ⟨s, hs0, -, hs⟩ := DataW.trod_string Tryz.underlying9 f2
 cases hk0
 cases hn0
 cases hs0
 -- the list's parts
 have hLs : ∃ (a : Addr) (L : List VT) (f g : Nat → Value), SlOf c3 a L.length ∧ (∀ i t, L[i]? = some t → Node w (a.add (i * 5)) t (f i) (g i)) ∧ (∀ i t, L[i]? = some t → HV w t (f i) (g i)) := by
  rcases DataW.trod_slice Tryz.underlying26 f3 with ⟨hc, -⟩ | ⟨a, len, cap, elems, rest, m2, hm2, hc, -, -, hlc, hcm, hel, hget, -, -⟩
  ·cases hc
   exact ⟨default, [], fun _ => .nilIface, fun _ => .nilIface, ⟨none, 0, rfl, Nat.le_refl _, Nat.zero_le _, fun h => absurd h (by simp)⟩, fun i t h => by simp at h, fun i t h => by simp at h⟩
  ·cases hc
   have key : ∀ i, ∃ r : VT × Value × Value, i < len → Node w (a.add (i * 5)) r.1 r.2.1 r.2.2 ∧ HV w r.1 r.2.1 r.2.2 := by
    intro i
    by_cases hi : i < len
    ·obtain ⟨z, ez⟩ := some_at hel hi
     have hg := (hget i hi).trans ez
     rw [Tryz.cells27] at hg
     obtain ⟨cs', h1, h2⟩ := Option.bind_eq_some_iff.1 hg
     obtain ⟨T, vx, vy, rfl, hT⟩ := ih m2 (by omega) cs' z h2
     obtain ⟨d0, d1, d2, d3, d4, he, g0, g1, g2, g3, g4⟩ := cells5 h1
     cases he
     exact ⟨(T, vx, vy), fun _ => ⟨⟨g0, g1, g2, g3, g4⟩, hT⟩⟩
    ·exact ⟨(.mk 0 0 ⟨#[]⟩ [] [] [], .nilIface, .nilIface), fun h => absurd h hi⟩
   obtain ⟨F, hF⟩ := Classical.axiomOfChoice key
   refine ⟨a, (List.range len).map fun i => (F i).1, fun i => (F i).2.1, fun i => (F i).2.2, ⟨some a, cap, by simp, by simpa using hlc, hcm, fun _ => rfl⟩, fun i t h => ?_, fun i t h => ?_⟩
   ·obtain ⟨hi, rfl⟩ := range_get _ _ _ _ h; exact (hF i hi).1
   ·obtain ⟨hi, rfl⟩ := range_get _ _ _ _ h; exact (hF i hi).2
 -- the map's pairs
 have hMs : ∃ (b : Addr) (K : List ByteArray) (V : List VT) (p q : Nat → Value), SlOf c4 b V.length ∧ K.length = V.length ∧ (∀ i u, K[i]? = some u → w.cell? (b.add (i * 6)) = some (.string u) ∧ u.size ≤ maxLen) ∧
   (∀ i t, V[i]? = some t → Node w (nx (b.add (i * 6))) t (p i) (q i)) ∧ (∀ i t, V[i]? = some t → HV w t (p i) (q i)) := by
  rcases DataW.trod_slice Tryz.underlying27 f4 with ⟨hc, -⟩ | ⟨a, len, cap, elems, rest, m2, hm2, hc, -, -, hlc, hcm, hel, hget, -, -⟩
  ·cases hc
   exact ⟨default, [], [], fun _ => .nilIface, fun _ => .nilIface, ⟨none, 0, rfl, Nat.le_refl _, Nat.zero_le _, fun h => absurd h (by simp)⟩, rfl, fun i t h => by simp at h, fun i t h => by simp at h, fun i t h => by simp at h⟩
  ·cases hc
   have key : ∀ i, ∃ r : ByteArray × VT × Value × Value, i < len → (w.cell? (a.add (i * 6)) = some (.string r.1) ∧ r.1.size ≤ maxLen) ∧ Node w (nx (a.add (i * 6))) r.2.1 r.2.2.1 r.2.2.2 ∧ HV w r.2.1 r.2.2.1 r.2.2.2 := by
    intro i
    by_cases hi : i < len
    ·obtain ⟨z, ez⟩ := some_at hel hi
     have hg := (hget i hi).trans ez
     rw [Tryz.cells34] at hg
     obtain ⟨cs', h1, h2⟩ := Option.bind_eq_some_iff.1 hg
     obtain ⟨ys, m3, hm3, -, hl2, hlen2, hf2⟩ := DataW.trod_struct Tryz.underlying60 h2
     obtain ⟨d0, d1, d2, d3, d4, d5, he, g0, g1, g2, g3, g4, g5⟩ := cells6 h1
     cases he
     have hlen2' : ys.length = 2 := hlen2
     obtain ⟨z0, ez0⟩ := some_at hlen2' (show 0 < 2 by omega)
     obtain ⟨z1, ez1⟩ := some_at hlen2' (show 1 < 2 by omega)
     have k0 : DataW.trod enc Tryz.prog w base spare held m3 9 [d0] = some z0 := by
      have := (hf2 0 { name := "Key", type := 9, offset := 0, embedded := false, tag := "", pkgPath := "", byteOffset := 0 } rfl).trans ez0
      dsimp only at this
      rw [Tryz.cells9] at this
      exact this
     have k1 : DataW.trod enc Tryz.prog w base spare held m3 29 [d1, d2, d3, d4, d5] = some z1 := by
      have := (hf2 1 { name := "V", type := 29, offset := 1, embedded := false, tag := "", pkgPath := "", byteOffset := 16 } rfl).trans ez1
      dsimp only at this
      rw [Tryz.cells27] at this
      exact this
     obtain ⟨u, hu0, -, hu⟩ := DataW.trod_string Tryz.underlying9 k0
     cases hu0
     obtain ⟨T, vx, vy, hT0, hT⟩ := ih m3 (by omega) _ z1 k1
     cases hT0
     exact ⟨(u, T, _, _), fun _ => ⟨⟨g0, hu⟩, ⟨g1, g2, g3, g4, g5⟩, hT⟩⟩
    ·exact ⟨(⟨#[]⟩, .mk 0 0 ⟨#[]⟩ [] [] [], .nilIface, .nilIface), fun h => absurd h hi⟩
   obtain ⟨F, hF⟩ := Classical.axiomOfChoice key
   refine ⟨a, (List.range len).map fun i => (F i).1, (List.range len).map fun i => (F i).2.1, fun i => (F i).2.2.1, fun i => (F i).2.2.2, ⟨some a, cap, by simp, by simpa using hlc, hcm, fun _ => rfl⟩, by simp, fun i u h => ?_, fun i t h => ?_, fun i t h => ?_⟩
   ·rw [List.getElem?_map] at h
    by_cases hi : i < len
    ·rw [List.getElem?_range hi] at h; simp at h; subst h; exact (hF i hi).1
    ·rw [List.getElem?_eq_none (by simp; omega)] at h; simp at h
   ·obtain ⟨hi, rfl⟩ := range_get _ _ _ _ h; exact (hF i hi).2.1
   ·obtain ⟨hi, rfl⟩ := range_get _ _ _ _ h; exact (hF i hi).2.2
 obtain ⟨a, L, f, g, hL, cL, rL⟩ := hLs
 obtain ⟨b, K, V, p, q, hM, hK, cK, cM, rM⟩ := hMs
 exact ⟨.mk k n s L K V, c3, c4, rfl, .mk a b f g p q hk hn hs hL hM hK cL cK cM rL rM⟩
end
end Go.Proofs.YteimbjamnfkapaaGreatDoor
namespace Go.Proofs.YteimbjamnfkapaaGreatDoor
open Go.RowKit
structure Chg (lo hi : Nat) (w w' : World) : Prop where
 os : w'.os = w.os
 tape : w'.tape = w.tape
 output : w'.output = w.output
 size : w.heap.size ≤ w'.heap.size
 block : ∀ k, k < w.heap.size → ¬ (lo ≤ k ∧ k < hi) → w'.heap[k]? = w.heap[k]?
theorem Chg.refl (lo hi : Nat) (w : World) : Chg lo hi w w := ⟨rfl, rfl, rfl, Nat.le_refl _, fun _ _ _ => rfl⟩
theorem Chg.trans {lo hi : Nat} {a b c : World} (h : Chg lo hi a b) (k : Chg lo hi b c) : Chg lo hi a c :=
 ⟨k.os.trans h.os, k.tape.trans h.tape, k.output.trans h.output, Nat.le_trans h.size k.size, fun i hi hn => (k.block i (Nat.lt_of_lt_of_le hi h.size) hn).trans (h.block i hi hn)⟩
theorem Chg.wide {lo hi lo' hi' : Nat} {a b : World} (h : Chg lo hi a b) (h1 : lo' ≤ lo) (h2 : hi ≤ hi') : Chg lo' hi' a b :=
 ⟨h.os, h.tape, h.output, h.size, fun i hi hn => h.block i hi (by omega)⟩
theorem Chg.of {lo hi : Nat} {a b : World} (h : Below a.heap.size a b) : Chg lo hi a b := ⟨h.os, h.tape, h.output, h.size, fun i hi _ => h.block i hi⟩
theorem Chg.new {lo hi : Nat} {a b : World} (h : Chg lo hi a b) (hn : a.heap.size ≤ lo) : Below a.heap.size a b := ⟨h.os, h.tape, h.output, h.size, fun i hi => h.block i hi (by omega)⟩
theorem Chg.below {lo hi : Nat} {a b : World} (h : Chg lo hi a b) {B : Nat} (h1 : B ≤ lo) (h2 : B ≤ a.heap.size) : Below B a b := ⟨h.os, h.tape, h.output, h.size, fun i hi => h.block i (by omega) (by omega)⟩
theorem Chg.alloc {lo hi : Nat} {a w : World} (h : Chg lo hi a w) (o : Obj) : Chg lo hi a (w.alloc o) :=
 h.trans ⟨rfl, rfl, rfl, by simp, fun k hk _ => Below.heap_alloc _ _ _ hk⟩
theorem Chg.drew {lo hi : Nat} {a w : World} (h : Chg lo hi a w) : Chg lo hi a w.drew := ⟨h.os, h.tape, h.output, h.size, h.block⟩
theorem Chg.setCell {lo hi : Nat} {a w : World} (h : Chg lo hi a w) {p : Addr} (hp : (lo ≤ p.block ∧ p.block < hi) ∨ a.heap.size ≤ p.block) (u : Value) : Chg lo hi a (w.setCell p u) :=
 ⟨h.os, h.tape, h.output, by have := h.size; simpa [World.setCell] using this, fun k hk hn => (Below.heap_setCell _ _ _ _ (by omega)).trans (h.block k hk hn)⟩
theorem Chg.cell {lo hi : Nat} {w w' : World} (h : Chg lo hi w w') {p : Addr} (hp : p.block < w.heap.size) (hn : ¬ (lo ≤ p.block ∧ p.block < hi)) : w'.cell? p = w.cell? p := World.cell?_of_block (w := w) (h.block p.block hp hn)
theorem Chg.then {lo hi : Nat} {a b c : World} (h : Chg lo hi a b) (k : Below a.heap.size b c) : Chg lo hi a c :=
 ⟨k.os.trans h.os, k.tape.trans h.tape, k.output.trans h.output, Nat.le_trans h.size k.size, fun i hi hn => (k.block i hi).trans (h.block i hi hn)⟩
def SlX (w : World) (v : Value) (b n : Nat) (t : TypeId) (k : Nat) : Prop := ∃ (o : Option Addr), v = .slice o n n ∧ n ≤ maxLen ∧ (0 < n → o = some ⟨b, 0, none⟩ ∧ ∃ c, w.heap[b]? = some (.cells c t) ∧ c.size = n * k)
theorem SlX.of {w : World} {v : Value} {b n : Nat} {t : TypeId} {k : Nat} (h : SlX w v b n t k) : SlOf v ⟨b, 0, none⟩ n := by
 obtain ⟨o, h1, h2, h3⟩ := h
 exact ⟨o, n, h1, Nat.le_refl _, h2, fun h => (h3 h).1⟩
theorem SlX.onto {w w' : World} {v : Value} {b n : Nat} {t : TypeId} {k : Nat} (h : SlX w v b n t k) (hb : 0 < n → w'.heap[b]? = w.heap[b]?) : SlX w' v b n t k := by
 obtain ⟨o, h1, h2, h3⟩ := h
 exact ⟨o, h1, h2, fun h => ⟨(h3 h).1, by rw [hb h]; exact (h3 h).2⟩⟩
theorem SlX.nil (w : World) (b : Nat) (t : TypeId) (k : Nat) : SlX w (.slice none 0 0) b 0 t k := ⟨none, rfl, Nat.zero_le _, fun h => absurd h (Nat.lt_irrefl 0)⟩
inductive HF (w : World) : Nat → Nat → VT → Value → Value → Prop
 | mk {lo hi : Nat} {k n : Int} {s : ByteArray} {L : List VT} {K : List ByteArray} {V : List VT} {x y : Value} (m bL bM : Nat) (l r : Nat → Nat) (f g p q : Nat → Value)
   (hk : (Lit.int .i64 k).wf = true) (hn : (Lit.int .i64 n).wf = true) (hs : s.size ≤ maxLen)
   (hL : SlX w x bL L.length 29 5) (hM : SlX w y bM V.length 60 6) (hK : K.length = V.length)
   (lom : lo ≤ m) (mhi : m ≤ hi)
   (iL : 0 < L.length → lo ≤ bL ∧ bL < l 0 ∧ l L.length ≤ m) (iM : 0 < V.length → m ≤ bM ∧ bM < r 0 ∧ r V.length ≤ hi)
   (oL : ∀ i j, i ≤ j → j ≤ L.length → l i ≤ l j) (oM : ∀ i j, i ≤ j → j ≤ V.length → r i ≤ r j)
   (cL : ∀ i t, L[i]? = some t → Node w (Addr.add ⟨bL, 0, none⟩ (i * 5)) t (f i) (g i))
   (cK : ∀ i u, K[i]? = some u → w.cell? (Addr.add ⟨bM, 0, none⟩ (i * 6)) = some (.string u) ∧ u.size ≤ maxLen)
   (cM : ∀ i t, V[i]? = some t → Node w (nx (Addr.add ⟨bM, 0, none⟩ (i * 6))) t (p i) (q i))
   (rL : ∀ i t, L[i]? = some t → HF w (l i) (l (i + 1)) t (f i) (g i))
   (rM : ∀ i t, V[i]? = some t → HF w (r i) (r (i + 1)) t (p i) (q i)) : HF w lo hi (.mk k n s L K V) x y
theorem HF.hv {w : World} {lo hi : Nat} {T : VT} {x y : Value} (h : HF w lo hi T x y) : HV w T x y := by
 induction h with
 | mk m bL bM l r f g p q hk hn hs hL hM hK lom mhi iL iM oL oM cL cK cM _ _ ihL ihM =>
  exact .mk _ _ f g p q hk hn hs hL.of hM.of hK cL cK cM ihL ihM
theorem HF.wide {w : World} {lo hi lo' hi' : Nat} {T : VT} {x y : Value} (h : HF w lo hi T x y) (h1 : lo' ≤ lo) (h2 : hi ≤ hi') : HF w lo' hi' T x y := by
 cases h with
 | mk m bL bM l r f g p q hk hn hs hL hM hK lom mhi iL iM oL oM cL cK cM rL rM =>
  exact .mk m bL bM l r f g p q hk hn hs hL hM hK (by omega) (by omega) (fun h => by have := iL h; omega) (fun h => by have := iM h; omega) oL oM cL cK cM rL rM
theorem lt_of_some {α : Type} {L : List α} {i : Nat} {t : α} (h : L[i]? = some t) : i < L.length := (List.getElem?_eq_some_iff.1 h).1
theorem add_block (b i : Nat) : (Addr.add ⟨b, 0, none⟩ i).block = b := by unfold Addr.add; split <;> rfl
theorem Node.eqs {w w' : World} {a : Addr} {T : VT} {x y : Value} (h : Node w a T x y) (hb : w'.heap[a.block]? = w.heap[a.block]?) : Node w' a T x y := by
 have e : ∀ p : Addr, p.block = a.block → w'.cell? p = w.cell? p := fun p hp => World.cell?_of_block (w := w) (by rw [hp]; exact hb)
 exact ⟨(e a rfl).trans h.1, (e ⟨a.block, a.off + 1, none⟩ rfl).trans h.2.1, (e ⟨a.block, a.off + 2, none⟩ rfl).trans h.2.2.1, (e ⟨a.block, a.off + 3, none⟩ rfl).trans h.2.2.2.1, (e ⟨a.block, a.off + 4, none⟩ rfl).trans h.2.2.2.2⟩
theorem HF.onto {w w' : World} {lo hi : Nat} {T : VT} {x y : Value} (h : HF w lo hi T x y) (hb : ∀ k, lo ≤ k → k < hi → w'.heap[k]? = w.heap[k]?) : HF w' lo hi T x y := by
 induction h with
 | mk m bL bM l r f g p q hk hn hs hL hM hK lom mhi iL iM oL oM cL cK cM _ _ ihL ihM =>
  refine .mk m bL bM l r f g p q hk hn hs (hL.onto (fun h => hb _ (iL h).1 (by have h1 := iL h; have h2 := oL 0 _ (Nat.zero_le _) (Nat.le_refl _); omega))) (hM.onto (fun h => hb _ (by have h1 := iM h; omega) (by have h1 := iM h; have h2 := oM 0 _ (Nat.zero_le _) (Nat.le_refl _); omega))) hK lom mhi iL iM oL oM (fun i t h => ?_) (fun i u h => ?_) (fun i t h => ?_) (fun i t h => ?_) (fun i t h => ?_)
  ·have hi := lt_of_some h
   have h1 := iL (by omega)
   have h2 := oL 0 _ (Nat.zero_le _) (Nat.le_refl _)
   exact (cL i t h).eqs (by rw [add_block]; exact hb _ (by omega) (by omega))
  ·have hi := lt_of_some h
   have h1 := iM (by omega)
   have h2 := oM 0 _ (Nat.zero_le _) (Nat.le_refl _)
   refine ⟨(World.cell?_of_block (w := w) ?_).trans (cK i u h).1, (cK i u h).2⟩
   rw [add_block]; exact hb _ (by omega) (by omega)
  ·have hi := lt_of_some h
   have h1 := iM (by omega)
   have h2 := oM 0 _ (Nat.zero_le _) (Nat.le_refl _)
   exact (cM i t h).eqs (by show w'.heap[(Addr.add ⟨bM, 0, none⟩ (i * 6)).block]? = _; rw [show (nx (Addr.add ⟨bM, 0, none⟩ (i * 6))).block = (Addr.add ⟨bM, 0, none⟩ (i * 6)).block from rfl, add_block]; exact hb _ (by omega) (by omega))
  ·have hi := lt_of_some h
   have h1 := iL (by omega)
   have h2 := oL 0 i (Nat.zero_le _) (by omega)
   have h3 := oL (i + 1) _ hi (Nat.le_refl _)
   exact ihL i t h (fun k g1 g2 => hb k (by omega) (by omega))
  ·have hi := lt_of_some h
   have h1 := iM (by omega)
   have h2 := oM 0 i (Nat.zero_le _) (by omega)
   have h3 := oM (i + 1) _ hi (Nat.le_refl _)
   exact ihM i t h (fun k g1 g2 => hb k (by omega) (by omega))
def InL (w : World) (L : List VT) (x : Value) : Prop := ∃ (a : Addr) (f g : Nat → Value), SlOf x a L.length ∧ (∀ i t, L[i]? = some t → Node w (a.add (i * 5)) t (f i) (g i)) ∧ (∀ i t, L[i]? = some t → HV w t (f i) (g i))
def InM (w : World) (K : List ByteArray) (V : List VT) (y : Value) : Prop := ∃ (b : Addr) (p q : Nat → Value), SlOf y b V.length ∧ K.length = V.length ∧
 (∀ i u, K[i]? = some u → w.cell? (b.add (i * 6)) = some (.string u) ∧ u.size ≤ maxLen) ∧ (∀ i t, V[i]? = some t → Node w (nx (b.add (i * 6))) t (p i) (q i)) ∧ (∀ i t, V[i]? = some t → HV w t (p i) (q i))
theorem InL.onto {w w' : World} {L : List VT} {x : Value} (h : InL w L x) (hb : Below w.heap.size w w') : InL w' L x := by
 obtain ⟨a, f, g, h1, h2, h3⟩ := h
 exact ⟨a, f, g, h1, fun i t h => (h2 i t h).onto hb, fun i t h => (h3 i t h).onto hb⟩
theorem InM.onto {w w' : World} {K : List ByteArray} {V : List VT} {y : Value} (h : InM w K V y) (hb : Below w.heap.size w w') : InM w' K V y := by
 obtain ⟨b, p, q, h1, h2, h3, h4, h5⟩ := h
 exact ⟨b, p, q, h1, h2, fun i u h => ⟨keepCell hb (h3 i u h).1, (h3 i u h).2⟩, fun i t h => (h4 i t h).onto hb, fun i t h => (h5 i t h).onto hb⟩
theorem HV.inL {w : World} {T : VT} {x y : Value} (h : HV w T x y) : InL w T.ls x := by
 cases h with
 | mk a b f g p q hk hn hs hL hM hK cL cK cM rL rM => exact ⟨a, f, g, hL, cL, rL⟩
theorem HV.inM {w : World} {T : VT} {x y : Value} (h : HV w T x y) : InM w T.ks T.vs y := by
 cases h with
 | mk a b f g p q hk hn hs hL hM hK cL cK cM rL rM => exact ⟨b, p, q, hM, hK, cK, cM, rM⟩
theorem hv_in {w : World} {k n : Int} {s : ByteArray} {L : List VT} {K : List ByteArray} {V : List VT} {x y : Value} (hk : (Lit.int .i64 k).wf = true) (hn : (Lit.int .i64 n).wf = true) (hs : s.size ≤ maxLen) (hL : InL w L x) (hM : InM w K V y) : HV w (.mk k n s L K V) x y := by
 obtain ⟨a, f, g, h1, h2, h3⟩ := hL
 obtain ⟨b, p, q, k1, k2, k3, k4, k5⟩ := hM
 exact .mk a b f g p q hk hn hs h1 k1 k2 h2 k3 k4 h3 k5
def LF (w : World) (lo hi : Nat) (L : List VT) (x : Value) : Prop := ∃ (b : Nat) (l : Nat → Nat) (f g : Nat → Value), SlX w x b L.length 29 5 ∧ (0 < L.length → lo ≤ b ∧ b < l 0 ∧ l L.length ≤ hi) ∧ (∀ i j, i ≤ j → j ≤ L.length → l i ≤ l j) ∧
 (∀ i t, L[i]? = some t → Node w (Addr.add ⟨b, 0, none⟩ (i * 5)) t (f i) (g i)) ∧ (∀ i t, L[i]? = some t → HF w (l i) (l (i + 1)) t (f i) (g i))
def MF (w : World) (lo hi : Nat) (K : List ByteArray) (V : List VT) (y : Value) : Prop := ∃ (b : Nat) (r : Nat → Nat) (p q : Nat → Value), SlX w y b V.length 60 6 ∧ K.length = V.length ∧ (0 < V.length → lo ≤ b ∧ b < r 0 ∧ r V.length ≤ hi) ∧ (∀ i j, i ≤ j → j ≤ V.length → r i ≤ r j) ∧
 (∀ i u, K[i]? = some u → w.cell? (Addr.add ⟨b, 0, none⟩ (i * 6)) = some (.string u) ∧ u.size ≤ maxLen) ∧ (∀ i t, V[i]? = some t → Node w (nx (Addr.add ⟨b, 0, none⟩ (i * 6))) t (p i) (q i)) ∧ (∀ i t, V[i]? = some t → HF w (r i) (r (i + 1)) t (p i) (q i))
theorem hf_of {w : World} {lo m hi : Nat} {k n : Int} {s : ByteArray} {L : List VT} {K : List ByteArray} {V : List VT} {x y : Value} (hk : (Lit.int .i64 k).wf = true) (hn : (Lit.int .i64 n).wf = true) (hs : s.size ≤ maxLen) (h1 : lo ≤ m) (h2 : m ≤ hi) (hL : LF w lo m L x) (hM : MF w m hi K V y) : HF w lo hi (.mk k n s L K V) x y := by
 obtain ⟨b, l, f, g, g1, g2, g3, g4, g5⟩ := hL
 obtain ⟨c, r, p, q, k1, k2, k3, k4, k5, k6, k7⟩ := hM
 exact .mk m b c l r f g p q hk hn hs g1 k1 k2 h1 h2 g2 k3 g3 k4 g4 k5 k6 g5 k7
theorem lf_nil (w : World) (lo hi : Nat) : LF w lo hi [] (.slice none 0 0) :=
 ⟨0, fun _ => 0, fun _ => .nilIface, fun _ => .nilIface, SlX.nil _ _ _ _, fun h => absurd h (by simp), fun _ _ _ _ => Nat.le_refl _, fun i t h => by simp at h, fun i t h => by simp at h⟩
theorem mf_nil (w : World) (lo hi : Nat) : MF w lo hi [] [] (.slice none 0 0) :=
 ⟨0, fun _ => 0, fun _ => .nilIface, fun _ => .nilIface, SlX.nil _ _ _ _, rfl, fun h => absurd h (by simp), fun _ _ _ _ => Nat.le_refl _, fun i t h => by simp at h, fun i t h => by simp at h, fun i t h => by simp at h⟩
theorem LF.wide {w : World} {lo hi lo' hi' : Nat} {L : List VT} {x : Value} (h : LF w lo hi L x) (h1 : lo' ≤ lo) (h2 : hi ≤ hi') : LF w lo' hi' L x := by
 obtain ⟨b, l, f, g, g1, g2, g3, g4, g5⟩ := h
 exact ⟨b, l, f, g, g1, fun h => by have := g2 h; omega, g3, g4, g5⟩
theorem MF.wide {w : World} {lo hi lo' hi' : Nat} {K : List ByteArray} {V : List VT} {y : Value} (h : MF w lo hi K V y) (h1 : lo' ≤ lo) (h2 : hi ≤ hi') : MF w lo' hi' K V y := by
 obtain ⟨b, l, f, g, g1, g0, g2, g3, g4, g5⟩ := h
 exact ⟨b, l, f, g, g1, g0, fun h => by have := g2 h; omega, g3, g4, g5⟩
theorem LF.onto {w w' : World} {lo hi : Nat} {L : List VT} {x : Value} (h : LF w lo hi L x) (hb : ∀ k, lo ≤ k → k < hi → w'.heap[k]? = w.heap[k]?) : LF w' lo hi L x := by
 obtain ⟨b, l, f, g, g1, g2, g3, g4, g5⟩ := h
 refine ⟨b, l, f, g, g1.onto (fun h => hb _ (g2 h).1 (by have h1 := g2 h; have h2 := g3 0 _ (Nat.zero_le _) (Nat.le_refl _); omega)), g2, g3, fun i t h => ?_, fun i t h => ?_⟩
 ·have hi := lt_of_some h
  have h1 := g2 (by omega)
  have h2 := g3 0 _ (Nat.zero_le _) (Nat.le_refl _)
  exact (g4 i t h).eqs (by rw [add_block]; exact hb _ (by omega) (by omega))
 ·have hi := lt_of_some h
  have h1 := g2 (by omega)
  have h2 := g3 0 i (Nat.zero_le _) (by omega)
  have h3 := g3 (i + 1) _ hi (Nat.le_refl _)
  exact (g5 i t h).onto (fun k g1 g2 => hb k (by omega) (by omega))
theorem MF.onto {w w' : World} {lo hi : Nat} {K : List ByteArray} {V : List VT} {y : Value} (h : MF w lo hi K V y) (hb : ∀ k, lo ≤ k → k < hi → w'.heap[k]? = w.heap[k]?) : MF w' lo hi K V y := by
 obtain ⟨b, l, f, g, g1, g0, g2, g3, g6, g4, g5⟩ := h
 refine ⟨b, l, f, g, g1.onto (fun h => hb _ (g2 h).1 (by have h1 := g2 h; have h2 := g3 0 _ (Nat.zero_le _) (Nat.le_refl _); omega)), g0, g2, g3, fun i u h => ?_, fun i t h => ?_, fun i t h => ?_⟩
 ·have hi := lt_of_some h
  have h1 := g2 (by omega)
  have h2 := g3 0 _ (Nat.zero_le _) (Nat.le_refl _)
  refine ⟨(World.cell?_of_block (w := w) ?_).trans (g6 i u h).1, (g6 i u h).2⟩
  rw [add_block]; exact hb _ (by omega) (by omega)
 ·have hi := lt_of_some h
  have h1 := g2 (by omega)
  have h2 := g3 0 _ (Nat.zero_le _) (Nat.le_refl _)
  exact (g4 i t h).eqs (by rw [show (nx (Addr.add ⟨b, 0, none⟩ (i * 6))).block = (Addr.add ⟨b, 0, none⟩ (i * 6)).block from rfl, add_block]; exact hb _ (by omega) (by omega))
 ·have hi := lt_of_some h
  have h1 := g2 (by omega)
  have h2 := g3 0 i (Nat.zero_le _) (by omega)
  have h3 := g3 (i + 1) _ hi (Nat.le_refl _)
  exact (g5 i t h).onto (fun k g1 g2 => hb k (by omega) (by omega))
theorem LF.inL {w : World} {lo hi : Nat} {L : List VT} {x : Value} (h : LF w lo hi L x) : InL w L x := by
 obtain ⟨b, l, f, g, g1, g2, g3, g4, g5⟩ := h
 exact ⟨_, f, g, g1.of, g4, fun i t h => (g5 i t h).hv⟩
theorem MF.inM {w : World} {lo hi : Nat} {K : List ByteArray} {V : List VT} {y : Value} (h : MF w lo hi K V y) : InM w K V y := by
 obtain ⟨b, l, f, g, g1, g0, g2, g3, g6, g4, g5⟩ := h
 exact ⟨_, f, g, g1.of, g0, g6, g4, fun i t h => (g5 i t h).hv⟩
theorem HF.lists {w : World} {lo hi : Nat} {T : VT} {x y : Value} (h : HF w lo hi T x y) : ∃ m, lo ≤ m ∧ m ≤ hi ∧ LF w lo m T.ls x ∧ MF w m hi T.ks T.vs y := by
 cases h with
 | mk m bL bM l r f g p q hk hn hs hL hM hK lom mhi iL iM oL oM cL cK cM rL rM =>
  exact ⟨m, lom, mhi, ⟨bL, l, f, g, hL, iL, oL, cL, rL⟩, ⟨bM, r, p, q, hM, hK, iM, oM, cK, cM, rM⟩⟩
theorem hv_slices {w : World} {T : VT} {x y : Value} (h : HV w T x y) : ∃ o n c o' n' c', x = .slice o n c ∧ y = .slice o' n' c' := by
 cases h with
 | mk a b f g p q hk hn hs hL hM hK cL cK cM rL rM =>
  obtain ⟨oL, capL, rfl, -, -, -⟩ := hL
  obtain ⟨oM, capM, rfl, -, -, -⟩ := hM
  exact ⟨_, _, _, _, _, _, rfl, rfl⟩
theorem vset_bel {w a : World} {ad : Addr} {v : Value} (h : Below w.heap.size w a) (hb : w.heap.size ≤ ad.block) : Below w.heap.size w (a.setCell ad v) := h.setCell hb v
theorem valloc_bel {w a : World} (h : Below w.heap.size w a) (o : Obj) : Below w.heap.size w (a.alloc o) := h.alloc h.size _
theorem vdrew_bel {w a : World} (h : Below w.heap.size w a) (n : Nat) : Below w.heap.size w (a.drewN n) := h.trans ⟨rfl, rfl, rfl, Nat.le_refl _, fun _ _ => rfl⟩
theorem vonto {w a b : World} (h : Below w.heap.size w a) (k : Below a.heap.size a b) : Below w.heap.size w b := h.trans (k.mono h.size)
theorem len_szL : ∀ L : List VT, L.length ≤ szL L
 | [] => by simp [szL]
 | t :: r => by have := len_szL r; have := szT_pos t; simp only [List.length_cons, szL]; omega
theorem len_sz (T : VT) : T.ls.length ≤ szT T ∧ T.vs.length ≤ szT T := by
 cases T with
 | mk k n s L K V => have h1 := len_szL L; have h2 := len_szL V; simp only [szT, VT.ls, VT.vs]; omega
theorem HV.wfs {w : World} {T : VT} {x y : Value} (h : HV w T x y) : (Lit.int .i64 T.kd).wf = true ∧ (Lit.int .i64 T.nm).wf = true ∧ T.st.size ≤ maxLen := by
 cases h with
 | mk a b f g p q hk hn hs hL hM hK cL cK cM rL rM => exact ⟨hk, hn, hs⟩
theorem LF.slice {w : World} {lo hi : Nat} {L : List VT} {x : Value} (h : LF w lo hi L x) : ∃ o n c, x = .slice o n c := by
 obtain ⟨b, l, f, g, ⟨o, rfl, -⟩, -⟩ := h
 exact ⟨_, _, _, rfl⟩
theorem MF.slice {w : World} {lo hi : Nat} {K : List ByteArray} {V : List VT} {x : Value} (h : MF w lo hi K V x) : ∃ o n c, x = .slice o n c := by
 obtain ⟨b, l, f, g, ⟨o, rfl, -⟩, -⟩ := h
 exact ⟨_, _, _, rfl⟩
theorem call_above {P : Program} {f : FuncId} {args : Array Value} {w x : World} {v : Ending} (hx : Below w.heap.size w x) (h : Calls P f args x fun e w' => e = v ∧ Below x.heap.size x w') : Calls P f args x fun e w' => e = v ∧ Below w.heap.size w w' :=
 h.mono fun _ _ ⟨he, hb⟩ => ⟨he, vonto hx hb⟩
end Go.Proofs.YteimbjamnfkapaaGreatDoor
namespace Go.Proofs.YteimbjamnfkapaaGreatDoor
open Go.RowKit
theorem szL_take_succ (L : List VT) (i : Nat) (t : VT) (h : L[i]? = some t) : szL (L.take (i + 1)) = szL (L.take i) + szT t := by
 induction L generalizing i with
 | nil => simp at h
 | cons a r ih =>
  cases i with
  | zero => simp at h; subst h; simp [szL]
  | succ i => simp at h; rw [List.take_succ_cons, List.take_succ_cons, szL, szL, ih i h]; omega
theorem szL_take_le (L : List VT) : ∀ i, szL (L.take i) ≤ szL L := by
 induction L with
 | nil => intro i; simp [szL]
 | cons a r ih =>
  intro i
  cases i with
  | zero => simp [szL]
  | succ i => rw [List.take_succ_cons, szL, szL]; have := ih i; omega
theorem box_cell (w wr : World) (c0 c1 c2 c3 c4 : Value) (t : TypeId) (h : Below (w.heap.size + 1) (w.alloc (.cells #[c0, c1, c2, c3, c4] t)) wr) (j : Nat) (u : Value) (hj : [c0, c1, c2, c3, c4][j]? = some u) : wr.cell? ⟨w.heap.size, j, none⟩ = some u := by
 rw [h.cell (show w.heap.size < w.heap.size + 1 by omega)]
 have := new_cells w [c0, c1, c2, c3, c4] t j u hj
 rw [← this]
 by_cases h0 : j = 0
 ·subst h0; simp [Addr.add]
 ·simp [Addr.add, h0]
mutual
def hgT : VT → Nat
 | .mk _ _ _ L _ V => 1 + max (hgL L) (hgL V)
def hgL : List VT → Nat
 | [] => 0
 | t :: r => max (hgT t) (hgL r)
end
theorem hgL_take_succ (L : List VT) (i : Nat) (t : VT) (h : L[i]? = some t) : hgL (L.take (i + 1)) = max (hgL (L.take i)) (hgT t) := by
 induction L generalizing i with
 | nil => simp at h
 | cons a r ih =>
  cases i with
  | zero => simp at h; subst h; simp [hgL]
  | succ i => simp at h; rw [List.take_succ_cons, List.take_succ_cons, hgL, hgL, ih i h]; omega
theorem hgL_take_le (L : List VT) : ∀ i, hgL (L.take i) ≤ hgL L := by
 induction L with
 | nil => intro i; simp [hgL]
 | cons a r ih =>
  intro i
  cases i with
  | zero => simp [hgL]
  | succ i => rw [List.take_succ_cons, hgL, hgL]; have := ih i; omega
mutual
theorem hg_sz : ∀ T : VT, hgT T ≤ szT T
 | .mk _ _ _ L _ V => by have h1 := hgL_sz L; have h2 := hgL_sz V; simp only [hgT, szT]; omega
theorem hgL_sz : ∀ L : List VT, hgL L ≤ szL L
 | [] => by simp [hgL, szL]
 | t :: r => by have h1 := hg_sz t; have h2 := hgL_sz r; simp only [hgL, szL]; omega
end
theorem hgT_pos (T : VT) : 1 ≤ hgT T := by cases T; simp only [hgT]; omega
end Go.Proofs.YteimbjamnfkapaaGreatDoor
namespace Go.Proofs.YteimbjamnfkapaaGreatDoor
open Go.RowKit
def Row (w : World) (b : Nat) (t : TypeId) (m : Nat) : Prop := ∃ c : Array Value, w.heap[b]? = some (.cells c t (0, 0)) ∧ c.size = m
theorem Row.cell {w : World} {b m : Nat} {t : TypeId} (h : Row w b t m) {o : Nat} (ho : o < m) : ∃ v, w.cell? ⟨b, o, none⟩ = some v := by
 obtain ⟨c, hc, rfl⟩ := h
 exact ⟨c[o], by simp [World.cell?, hc, ho]⟩
theorem Row.frozen {w : World} {b m : Nat} {t : TypeId} (h : Row w b t m) (o : Nat) : w.frozen? ⟨b, o, none⟩ = false := by
 obtain ⟨c, hc, rfl⟩ := h
 simp [World.frozen?, hc]
theorem Row.set {w : World} {b m : Nat} {t : TypeId} (h : Row w b t m) (p : Addr) (u : Value) : Row (w.setCell p u) b t m := by
 obtain ⟨c, hc, rfl⟩ := h
 by_cases hp : p.block = b
 ·refine ⟨if p.spot.isSome then c else c.setIfInBounds p.off u, ?_, by split <;> simp⟩
  simp [World.setCell, Array.getElem?_modify, hp, hc]
 ·exact ⟨c, by rw [Below.heap_setCell _ _ _ _ (fun e => hp e.symm)]; exact hc, rfl⟩
theorem Row.onto {w w' : World} {b m : Nat} {t : TypeId} (h : Row w b t m) (hb : w'.heap[b]? = w.heap[b]?) : Row w' b t m := by
 obtain ⟨c, hc, rfl⟩ := h
 exact ⟨c, hb.trans hc, rfl⟩
theorem Row.new (w : World) (c : Array Value) (t : TypeId) : Row (w.alloc (.cells c t)) w.heap.size t c.size := ⟨c, by show (w.heap.push _)[w.heap.size]? = _; simp, rfl⟩
theorem Row.lt {w : World} {b m : Nat} {t : TypeId} (h : Row w b t m) : b < w.heap.size := by
 obtain ⟨c, hc, rfl⟩ := h
 exact (Array.getElem?_eq_some_iff.1 hc).1
theorem set_other (w : World) (b b' o o' : Nat) (v : Value) (h : b ≠ b' ∨ o ≠ o') : (w.setCell ⟨b, o, none⟩ v).cell? ⟨b', o', none⟩ = w.cell? ⟨b', o', none⟩ :=
 World.cell?_setCell_other _ _ _ _ (fun e => by injection e with e1 e2; omega)
theorem set_same {w : World} {b m : Nat} {t : TypeId} (h : Row w b t m) {o : Nat} (ho : o < m) (v : Value) : (w.setCell ⟨b, o, none⟩ v).cell? ⟨b, o, none⟩ = some v := by
 obtain ⟨u, hu⟩ := h.cell ho
 exact World.cell?_setCell_same _ _ _ hu
def put5 (w : World) (b o : Nat) (v0 v1 v2 v3 v4 : Value) : World := ((((w.setCell ⟨b, o, none⟩ v0).setCell ⟨b, o + 1, none⟩ v1).setCell ⟨b, o + 2, none⟩ v2).setCell ⟨b, o + 3, none⟩ v3).setCell ⟨b, o + 4, none⟩ v4
theorem put5_row {w : World} {b m : Nat} {t : TypeId} (h : Row w b t m) (b' o : Nat) (v0 v1 v2 v3 v4 : Value) : Row (put5 w b' o v0 v1 v2 v3 v4) b t m := ((((h.set _ _).set _ _).set _ _).set _ _).set _ _
theorem put5_heap (w : World) (b o : Nat) (v0 v1 v2 v3 v4 : Value) (k : Nat) (h : k ≠ b) : (put5 w b o v0 v1 v2 v3 v4).heap[k]? = w.heap[k]? := by
 unfold put5
 rw [Below.heap_setCell _ _ _ _ h, Below.heap_setCell _ _ _ _ h, Below.heap_setCell _ _ _ _ h, Below.heap_setCell _ _ _ _ h, Below.heap_setCell _ _ _ _ h]
theorem put5_size (w : World) (b o : Nat) (v0 v1 v2 v3 v4 : Value) : (put5 w b o v0 v1 v2 v3 v4).heap.size = w.heap.size := by simp [put5]
theorem put5_other (w : World) (b o : Nat) (v0 v1 v2 v3 v4 : Value) (o' : Nat) (h : o' < o ∨ o + 5 ≤ o') : (put5 w b o v0 v1 v2 v3 v4).cell? ⟨b, o', none⟩ = w.cell? ⟨b, o', none⟩ := by
 unfold put5
 rw [set_other _ _ _ _ _ _ (Or.inr (by omega)), set_other _ _ _ _ _ _ (Or.inr (by omega)), set_other _ _ _ _ _ _ (Or.inr (by omega)), set_other _ _ _ _ _ _ (Or.inr (by omega)), set_other _ _ _ _ _ _ (Or.inr (by omega))]
theorem put5_node {w : World} {b m : Nat} {ty : TypeId} (h : Row w b ty m) (o : Nat) (ho : o + 5 ≤ m) (T : VT) (x y : Value) : Node (put5 w b o (.int .i64 T.kd) (.int .i64 T.nm) (.string T.st) x y) ⟨b, o, none⟩ T x y := by
 unfold put5
 refine ⟨?_, ?_, ?_, ?_, ?_⟩
 ·rw [set_other _ _ _ _ _ _ (Or.inr (by omega)), set_other _ _ _ _ _ _ (Or.inr (by omega)), set_other _ _ _ _ _ _ (Or.inr (by omega)), set_other _ _ _ _ _ _ (Or.inr (by omega))]
  exact set_same h (by omega) _
 ·show World.cell? _ ⟨b, o + 1, none⟩ = _
  rw [set_other _ _ _ _ _ _ (Or.inr (by omega)), set_other _ _ _ _ _ _ (Or.inr (by omega)), set_other _ _ _ _ _ _ (Or.inr (by omega))]
  exact set_same (h.set _ _) (by omega) _
 ·show World.cell? _ ⟨b, o + 2, none⟩ = _
  rw [set_other _ _ _ _ _ _ (Or.inr (by omega)), set_other _ _ _ _ _ _ (Or.inr (by omega))]
  exact set_same ((h.set _ _).set _ _) (by omega) _
 ·show World.cell? _ ⟨b, o + 3, none⟩ = _
  rw [set_other _ _ _ _ _ _ (Or.inr (by omega))]
  exact set_same (((h.set _ _).set _ _).set _ _) (by omega) _
 ·show World.cell? _ ⟨b, o + 4, none⟩ = _
  exact set_same ((((h.set _ _).set _ _).set _ _).set _ _) (by omega) _
theorem node_at {w w' : World} {b o : Nat} {T : VT} {x y : Value} (h : Node w ⟨b, o, none⟩ T x y) (e : ∀ i, i < 5 → w'.cell? ⟨b, o + i, none⟩ = w.cell? ⟨b, o + i, none⟩) : Node w' ⟨b, o, none⟩ T x y :=
 ⟨(e 0 (by omega)).trans h.1, (e 1 (by omega)).trans h.2.1, (e 2 (by omega)).trans h.2.2.1, (e 3 (by omega)).trans h.2.2.2.1, (e 4 (by omega)).trans h.2.2.2.2⟩
theorem add_at (b i : Nat) : Addr.add ⟨b, 0, none⟩ i = ⟨b, i, none⟩ := by
 simp only [Addr.add, Nat.zero_add]; split
 ·next h0 => rw [h0]
 ·rfl
theorem vkeeps {W V : World} (h : Below W.heap.size W V) : (∀ b o, b < W.heap.size → V.cell? ⟨b, o, none⟩ = W.cell? ⟨b, o, none⟩) ∧ ∀ b o, b < W.heap.size → V.frozen? ⟨b, o, none⟩ = W.frozen? ⟨b, o, none⟩ :=
 ⟨fun _ _ g => h.cell g, fun _ _ g => h.frozen g⟩
theorem Tryz.made27 (n : Nat) (h : n ≤ 1000000) (w : World) : (Instr.makeSlice 26 (.int .i64 (n : Int)) (.int .i64 (n : Int))).run Tryz.prog w = .ok (.slice (some ⟨w.heap.size, 0, none⟩) n n) (w.alloc (.cells (madeCells #[.int .i64 0, .int .i64 0, .string ⟨#[]⟩, .slice none 0 0, .slice none 0 0] (n * 5)) 29)) := by
 obtain ⟨i, hi, hz⟩ := Option.map_eq_some_iff.1 (show (Tryz.prog.info? 29).map (fun i => (i.zero, i.size, i.bytes)) = some (some (.agg #[.int .i64 0, .int .i64 0, .string ⟨#[]⟩, .slice none 0 0, .slice none 0 0]), 5, 80) by kernel_rfl)
 simp only [Prod.mk.injEq] at hz
 obtain ⟨hz, hs, hb⟩ := hz
 have := run_make (P := Tryz.prog) w 26 29 i _ Tryz.underlying26 hi hz .i64 .i64 n n (by omega) (Int.le_refl _) (by rw [hb]; omega) (by omega)
 rw [hs] at this
 simp only [Int.toNat_natCast] at this
 exact this
theorem Tryz.made34 (n : Nat) (h : n ≤ 1000000) (w : World) : (Instr.makeSlice 27 (.int .i64 (n : Int)) (.int .i64 (n : Int))).run Tryz.prog w = .ok (.slice (some ⟨w.heap.size, 0, none⟩) n n) (w.alloc (.cells (madeCells #[.string ⟨#[]⟩, .int .i64 0, .int .i64 0, .string ⟨#[]⟩, .slice none 0 0, .slice none 0 0] (n * 6)) 60)) := by
 obtain ⟨i, hi, hz⟩ := Option.map_eq_some_iff.1 (show (Tryz.prog.info? 60).map (fun i => (i.zero, i.size, i.bytes)) = some (some (.agg #[.string ⟨#[]⟩, .int .i64 0, .int .i64 0, .string ⟨#[]⟩, .slice none 0 0, .slice none 0 0]), 6, 96) by kernel_rfl)
 simp only [Prod.mk.injEq] at hz
 obtain ⟨hz, hs, hb⟩ := hz
 have := run_make (P := Tryz.prog) w 27 60 i _ Tryz.underlying27 hi hz .i64 .i64 n n (by omega) (Int.le_refl _) (by rw [hb]; omega) (by omega)
 rw [hs] at this
 simp only [Int.toNat_natCast] at this
 exact this
end Go.Proofs.YteimbjamnfkapaaGreatDoor
namespace Go.Proofs.YteimbjamnfkapaaGreatDoor
open Go.RowKit
def findK (key : ByteArray) : List ByteArray → List VT → Option VT
 | c :: K, t :: V => if c.data.toList = key.data.toList then some t else findK key K V
 | _, _ => none
def getO (T : VT) (key : ByteArray) : Option VT := if T.kd = 6 then findK key T.ks T.vs else none
def zeroT : VT := .mk 0 0 ⟨#[]⟩ [] [] []
theorem hv_zero (w : World) : HV w zeroT (.slice none 0 0) (.slice none 0 0) :=
 .mk ⟨0, 0, none⟩ ⟨0, 0, none⟩ (fun _ => .int .i64 0) (fun _ => .int .i64 0) (fun _ => .int .i64 0) (fun _ => .int .i64 0) (by decide) (by decide) (by decide)
  ⟨none, 0, rfl, Nat.le_refl _, Nat.zero_le _, fun h => absurd h (Nat.lt_irrefl 0)⟩ ⟨none, 0, rfl, Nat.le_refl _, Nat.zero_le _, fun h => absurd h (Nat.lt_irrefl 0)⟩ rfl
  (fun i t h => by simp at h) (fun i t h => by simp at h) (fun i t h => by simp at h) (fun i t h => by simp at h) (fun i t h => by simp at h)
theorem findK_some (key : ByteArray) : ∀ (K : List ByteArray) (V : List VT) (j : Nat) (c : ByteArray) (t : VT), K[j]? = some c → V[j]? = some t → c.data.toList = key.data.toList → (∀ (i : Nat) (c' : ByteArray), i < j → K[i]? = some c' → ¬ c'.data.toList = key.data.toList) → findK key K V = some t
 | [], _, j, c, t, h, _, _, _ => by simp at h
 | a :: K, [], j, c, t, _, h, _, _ => by simp at h
 | a :: K, b :: V, 0, c, t, h, g, e, _ => by
  simp at h g; subst h g; rw [findK, if_pos e]
 | a :: K, b :: V, j + 1, c, t, h, g, e, n => by
  rw [findK, if_neg (n 0 a (by omega) rfl)]
  exact findK_some key K V j c t (by simpa using h) (by simpa using g) e (fun i c' hi hc => n (i + 1) c' (by omega) (by simpa using hc))
end Go.Proofs.YteimbjamnfkapaaGreatDoor
