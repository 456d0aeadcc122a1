import Derived.Test.YteimbjamnfkapaaGreatDoorCShelf3
import Derived.Test.YteimbjamnfkapaaGreatDoorCMathFd
import Derived.Maps.OwnSet
import Derived.DeepKeys4
/- unflat: maps to numbers in memory; the tree that grows, in memory. -/
namespace Go.Proofs.YteimbjamnfkapaaGreatDoor
open Go.RowKit Go.Maps
instance : DecidableEq PStep := fun a b => decidable_of_iff (a.key = b.key ∧ a.at_ = b.at_ ∧ a.place = b.place) ⟨fun h => by cases a; cases b; simp_all, fun h => by subst h; exact ⟨rfl, rfl, rfl⟩⟩
section
variable {α : Type}
def mpF [DecidableEq α] : List (α × Nat) → α → Option Nat
 | [], _ => none
 | (k, b) :: r, x => if k = x then some b else mpF r x
def mpD (lit : α → Lit) : List (α × Nat) → DataW Unit
 | [] => .map []
 | (k, b) :: r => (mpD lit r).put (lit k) (.lit (.int .i64 (b : Int)))
theorem mpD_map (lit : α → Lit) : ∀ l : List (α × Nat), IsMap (mpD lit l)
 | [] => ⟨[], rfl⟩
 | (k, b) :: r => by
  obtain ⟨es, h⟩ := mpD_map lit r
  unfold mpD; rw [h]; exact ⟨_, rfl⟩
structure Kr (k : TypeId) (val : α → Value) (lit : α → Lit) (ok : α → Prop) : Prop where
 kd : Keyed Tryz.prog k
 rd : ∀ a, ok a → keyOf Tryz.prog k (val a) = some (lit a)
 inj : ∀ a b, val a = val b → a = b
theorem Kr.one {k : TypeId} {val : α → Value} {lit : α → Lit} {ok : α → Prop} (R : Kr k val lit ok) {a b : α} (ha : ok a) (hb : ok b) (h : lit a = lit b) : a = b :=
 R.inj a b (R.kd.inj (R.rd a ha) (by rw [h]; exact R.rd b hb))
theorem mpD_at [DecidableEq α] {k : TypeId} {val : α → Value} {lit : α → Lit} {ok : α → Prop} (R : Kr k val lit ok) : ∀ (l : List (α × Nat)) (x : α), (∀ e ∈ l, ok e.1) → ok x →
  (mpD lit l).atKey (lit x) (.lit (.int .i64 0)) = .lit (.int .i64 (((mpF l x).getD 0 : Nat) : Int)) ∧ Maps.has (mpD lit l) (lit x) = (mpF l x).isSome
 | [], _, _, _ => ⟨rfl, rfl⟩
 | (a, b) :: r, x, hl, hx => by
  have ha : ok a := hl (a, b) (by simp)
  obtain ⟨h1, h2⟩ := mpD_at R r x (fun e he => hl e (by simp [he])) hx
  unfold mpD mpF
  by_cases h : a = x
  ·subst h
   rw [if_pos rfl, atKey_put_same (mpD_map lit r) (R.kd.key (R.rd a ha)), has_put_same (mpD_map lit r) (R.kd.key (R.rd a ha))]
   exact ⟨rfl, rfl⟩
  ·have hne : lit x ≠ lit a := fun e => h (R.one ha hx e.symm)
   rw [if_neg h, atKey_put_other hne, has_put_other hne]
   exact ⟨h1, h2⟩
def MpM (w : World) (k : TypeId) (lit : α → Lit) (m : Nat) (l : List (α × Nat)) : Prop := w.ownsMap Tryz.prog k (plainElem Tryz.prog 3) m l.length (mpD lit l)
theorem MpM.kept {w w' : World} {k : TypeId} {lit : α → Lit} {m : Nat} {l : List (α × Nat)} (h : MpM w k lit m l) (hb : w'.heap[m]? = w.heap[m]?) : MpM w' k lit m l := by
 obtain ⟨es, clock, h1, h2⟩ := h
 exact ⟨es, clock, hb.trans h1, h2⟩
theorem mp_new {w : World} {m : Nat} (k : TypeId) (lit : α → Lit) (h : w.heap[m]? = some (.map #[] 0)) : MpM w k lit m ([] : List (α × Nat)) := by
 obtain ⟨es, clock, hb, F, hs, hD⟩ := World.ownsMap_made w Tryz.prog k (plainElem (H := Unit) Tryz.prog 3)
 have e := (MapKept.heap_alloc w (.map #[] 0)).1
 rw [e] at hb
 injection hb with hb
 injection hb with h1 h2
 subst h1 h2
 exact ⟨#[], 0, h, F, Nat.le_refl _, hD⟩
theorem mp_look [DecidableEq α] {w : World} {k : TypeId} {val : α → Value} {lit : α → Lit} {ok : α → Prop} {m : Nat} {l : List (α × Nat)} (R : Kr k val lit ok) (h : MpM w k lit m l) (hl : ∀ e ∈ l, ok e.1) (t : TypeId) (ht : Tryz.prog.underlying t = some (.map k 3)) (x : α) (hx : ok x) :
  (Instr.lookup t (.map (some m)) (val x) true).run Tryz.prog w = .ok (.tuple #[.int .i64 (((mpF l x).getD 0 : Nat) : Int), .bool (mpF l x).isSome]) w := by
 obtain ⟨h1, h2⟩ := mpD_at R l x hl hx
 obtain ⟨v, ps, hr, hv⟩ := World.ownsMap.look_ok h R.kd ht (z := .int .i64 0) (by kernel_rfl) (zd := .lit (.int .i64 0)) (zp := []) (plainElem_int (by kernel_rfl) (by decide)) (R.rd x hx)
 rw [h1] at hv
 obtain ⟨c, rfl, hc, -⟩ := plainElem_int_inv (q := .i64) (by kernel_rfl) hv
 simp only [Prod.mk.injEq, DataW.lit.injEq, Lit.int.injEq, true_and] at hc
 rw [hr, h2, ← hc.1]
theorem mp_look1 [DecidableEq α] {w : World} {k : TypeId} {val : α → Value} {lit : α → Lit} {ok : α → Prop} {m : Nat} {l : List (α × Nat)} (R : Kr k val lit ok) (h : MpM w k lit m l) (hl : ∀ e ∈ l, ok e.1) (t : TypeId) (ht : Tryz.prog.underlying t = some (.map k 3)) (x : α) (hx : ok x) :
  (Instr.lookup t (.map (some m)) (val x) false).run Tryz.prog w = .ok (.int .i64 (((mpF l x).getD 0 : Nat) : Int)) w := by
 obtain ⟨h1, h2⟩ := mpD_at R l x hl hx
 obtain ⟨c, hr, hc, -⟩ := World.ownsMap.lookup_int (q := .i64) h R.kd ht (by kernel_rfl) (by kernel_rfl) (R.rd x hx)
 rw [h1] at hc
 simp only [DataW.lit.injEq, Lit.int.injEq, true_and] at hc
 rw [hr, ← hc]
theorem mp_put {w : World} {k : TypeId} {val : α → Value} {lit : α → Lit} {ok : α → Prop} {m : Nat} {l : List (α × Nat)} (R : Kr k val lit ok) (h : MpM w k lit m l) (t : TypeId) (ht : Tryz.prog.underlying t = some (.map k 3)) (x : α) (hx : ok x) (b : Nat) (hb : b ≤ 1000000000) (hl : l.length ≤ 1000000000) :
  ∃ w', (Instr.mapUpdate t (.map (some m)) (val x) (.int .i64 (b : Int))).run Tryz.prog w = .ok () w' ∧ MpM w' k lit m ((x, b) :: l) ∧ w.grownBy w' (some m) := by
 obtain ⟨w', h1, h2, h3⟩ := World.ownsMap.update h R.kd ht (by unfold maxLen; omega) (R.rd x hx) (val := .int .i64 (b : Int)) (d := .lit (.int .i64 (b : Int))) (ps := []) (plainElem_int (by kernel_rfl) (WalkArith.wf_i64 (by omega)))
 exact ⟨w', h1, h2, h3⟩
end
def wyV (x : Nat × PStep) : Value := .agg #[.int .i64 (x.1 : Int), .string x.2.key, .int .i64 x.2.at_, .bool x.2.place]
def wyL (x : Nat × PStep) : Lit := .string (keyBytes [.int .i64 (x.1 : Int), .string x.2.key.data.toList, .int .i64 x.2.at_, .bool x.2.place])
def OkS (s : PStep) : Prop := s.key.size ≤ 1000000 ∧ -9223372036854775808 ≤ s.at_ ∧ s.at_ ≤ 9223372036854775807
def wyO (x : Nat × PStep) : Prop := x.1 ≤ 1000000000 ∧ OkS x.2
theorem Tryz.tsz2 : 2 ≤ Tryz.prog.types.size := of_decide_eq_true (by kernel_rfl)
theorem Tryz.tsz3 : ∃ m, Tryz.prog.types.size + 1 = m + 3 := by
 have := Tryz.tsz2
 generalize Tryz.prog.types.size = n at *
 exact ⟨n - 2, by omega⟩
theorem Tryz.cw4 : Tryz.prog.cellsOf 201 = 4 := by kernel_rfl
theorem Tryz.cw3 : Tryz.prog.cellsOf 78 = 3 := by kernel_rfl
theorem Tryz.cw1a : Tryz.prog.cellsOf 3 = 1 := by kernel_rfl
theorem Tryz.cw1b : Tryz.prog.cellsOf 9 = 1 := by kernel_rfl
theorem Tryz.cw1c : Tryz.prog.cellsOf 4 = 1 := by kernel_rfl
theorem wy_lits (a : Int) (k : ByteArray) (t : Int) (p : Bool) (ha : (Lit.int .i64 a).wf = true) (hk : k.size ≤ maxLen) (ht : (Lit.int .i64 t).wf = true) : Tryz.prog.keyLits (Tryz.prog.types.size + 1) 201 [.int .i64 a, .string k, .int .i64 t, .bool p] = some [.int .i64 a, .string k.data.toList, .int .i64 t, .bool p] := by
 obtain ⟨m, hm⟩ := Tryz.tsz3
 rw [hm]
 simp [Program.keyLits, Tryz.underlying201, Tryz.underlying78, Tryz.underlying3, Tryz.underlying4, Tryz.underlying9, ha, ht, hk, Tryz.cw4, Tryz.cw3, Tryz.cw1a, Tryz.cw1b, Tryz.cw1c]
 rw [if_pos (by
  intro i hi
  match i, hi with
  | 0, _ => simp
  | 1, _ => simp
  | 2, _ => simp
  | i + 3, hi => omega)]
 rfl
theorem wy_key (x : Nat × PStep) (h : wyO x) : keyOf Tryz.prog 201 (wyV x) = some (wyL x) := by
 have h1 := wy_lits (x.1 : Int) x.2.key x.2.at_ x.2.place (WalkArith.wf_i64 (by have := h.1; omega)) (by have := h.2.1; unfold maxLen; omega) (WalkArith.wf_i64 (by have := h.2.2.2; have := h.2.2.1; omega))
 unfold keyOf wyV
 rw [Tryz.underlying201]
 simp only
 rw [if_pos, show (Value.agg #[.int .i64 (x.1 : Int), .string x.2.key, .int .i64 x.2.at_, .bool x.2.place]).cells.toList = [.int .i64 (x.1 : Int), .string x.2.key, .int .i64 x.2.at_, .bool x.2.place] from rfl, h1]
 ·rfl
 ·rw [show Tryz.prog.keyType 201 = true from by kernel_rfl]
  simp [Value.formed, Tryz.underlying201, Tryz.cw4]
theorem wy_kr : Kr 201 wyV wyL wyO := ⟨Keyed.of_law (deep_law_laid (by kernel_rfl) (m := 3) (by omega) (of_decide_eq_true (by kernel_rfl)) (by kernel_rfl) (by kernel_rfl)), wy_key, fun a b h => by
 unfold wyV at h
 obtain ⟨a1, a2, a3, a4⟩ := a
 obtain ⟨b1, b2, b3, b4⟩ := b
 simp only [Value.agg.injEq, Array.mk.injEq, List.cons.injEq, Value.int.injEq, Value.string.injEq, Value.bool.injEq, true_and, and_true] at h
 obtain ⟨h1, h2, h3, h4⟩ := h
 have h1 : a1 = b1 := by omega
 rw [h1, h2, h3, h4]⟩
theorem st_kr : Kr 9 Value.string (fun s => .string s.data.toList) (fun s => s.size ≤ 1000000) := ⟨string_keyed (by kernel_rfl), fun s hs => Go.WideMaps.keyOf_string_mk (P := Tryz.prog) (k := 9) (by kernel_rfl) (s := s) (by unfold maxLen; omega), fun a b h => by injection h⟩
structure Nd where
 sh : Int
 st : PStep
 lf : Nat
 ps : List Nat
structure NE where
 d : Nd
 u : Value
def nc (e : NE) : List Value := [.int .i64 e.d.sh, .string e.d.st.key, .int .i64 e.d.st.at_, .bool e.d.st.place, .int .i64 (e.d.lf : Int), e.u]
def pI (l : List Nat) : List Value := l.map fun b => Value.int .i64 (Int.ofNat b)
theorem nc_set : ∀ (E : List NE) (i : Nat) (e e' : NE), E[i]? = some e → ∀ (c : Nat) (v : Value), c < 6 → (nc e).set c v = nc e' → (E.flatMap nc).set (i * 6 + c) v = (E.set i e').flatMap nc
 | [], i, e, e', h, _, _, _, _ => by simp at h
 | a :: E, 0, e, e', h, c, v, hc, hv => by
  simp at h; subst h
  rw [List.flatMap_cons, List.set_cons_zero, List.flatMap_cons, ← hv, List.set_append_left _ _ (by simp [nc]; omega)]
  simp
 | a :: E, i + 1, e, e', h, c, v, hc, hv => by
  rw [List.flatMap_cons, List.set_cons_succ, List.flatMap_cons, ← nc_set E i e e' (by simpa using h) c v hc hv, List.set_append_right _ _ (by simp [nc]; omega)]
  congr 2
  simp [nc]; omega
structure TM (B : Nat) (w : World) (tb m : Nat) (v : Value) (E : List NE) (M : List ((Nat × PStep) × Nat)) : Prop where
 lo : B ≤ tb
 mlo : B ≤ m
 wlo : B ≤ w.heap.size
 box : w.heap[tb]? = some (.cells #[v, .map (some m)] 100 (0, 0))
 ns : w.ownsRow B 152 6 v E.length (E.flatMap nc)
 ps : ∀ e ∈ E, w.ownsRow B 3 1 e.u e.d.ps.length (pI e.d.ps)
 ap : ∀ (i j : Nat) (a b : NE), i ≠ j → E[i]? = some a → E[j]? = some b → a.u.ownBlock = none ∨ a.u.ownBlock ≠ b.u.ownBlock
 mp : MpM w 201 wyL m M
 mo : ∀ x ∈ M, wyO x.1
def Kp (B : Nat) (w w' : World) : Prop := ∀ W0 : World, W0.heap.size = B → Below B W0 w → Below B W0 w'
theorem Kp.refl (B : Nat) (w : World) : Kp B w w := fun _ _ h => h
theorem Kp.trans {B : Nat} {w w1 w2 : World} (h1 : Kp B w w1) (h2 : Kp B w1 w2) : Kp B w w2 := fun W0 h h3 => h2 W0 h (h1 W0 h h3)
theorem Kp.of {B : Nat} {w w' : World} (h : Below w.heap.size w w') : Kp B w w' := fun W0 h0 h1 => by subst h0; exact vonto h1 h
theorem Kp.grown {B : Nat} {w w' : World} {o : Option Nat} (h : w.grownBy w' o) (hb : B ≤ w.heap.size) (ho : ∀ k, o = some k → B ≤ k) : Kp B w w' := fun W0 h0 h1 => by subst h0; exact h1.grown h hb ho
theorem TM.onto {B : Nat} {w w' : World} {tb m : Nat} {v : Value} {E : List NE} {M : List ((Nat × PStep) × Nat)} (h : TM B w tb m v E M) (hb : Below w.heap.size w w') : TM B w' tb m v E M :=
 ⟨h.lo, h.mlo, Nat.le_trans h.wlo hb.size, by rw [hb.block tb (Array.getElem?_eq_some_iff.1 h.box).1]; exact h.box, ownsRow_below h.ns hb, fun e he => ownsRow_below (h.ps e he) hb, h.ap, h.mp.kept (hb.block m h.mp.lt), h.mo⟩
theorem TM.lt {B : Nat} {w : World} {tb m : Nat} {v : Value} {E : List NE} {M : List ((Nat × PStep) × Nat)} (h : TM B w tb m v E M) : tb < w.heap.size := (Array.getElem?_eq_some_iff.1 h.box).1
theorem TM.cells {B : Nat} {w : World} {tb m : Nat} {v : Value} {E : List NE} {M : List ((Nat × PStep) × Nat)} (h : TM B w tb m v E M) : w.cell? ⟨tb, 0, none⟩ = some v ∧ w.cell? ⟨tb, 1, none⟩ = some (.map (some m)) ∧ ∀ o, w.frozen? ⟨tb, o, none⟩ = false := by
 have hb := h.box
 refine ⟨?_, ?_, fun o => ?_⟩
 ·rw [cell_of_row w tb 0 _ _ _ hb]; rfl
 ·rw [cell_of_row w tb 1 _ _ _ hb]; rfl
 ·simp [World.frozen?, hb]
theorem TM.sl {B : Nat} {w : World} {tb m : Nat} {v : Value} {E : List NE} {M : List ((Nat × PStep) × Nat)} (h : TM B w tb m v E M) (h0 : 0 < E.length) : ∃ g c, v = .slice (some ⟨g, 0, none⟩) E.length c ∧ E.length ≤ c ∧ c ≤ maxLen := by
 rcases h.ns.2 with ⟨-, e⟩ | ⟨g, cap, cur, rfl, -, -, h1, h2, -, -⟩
 ·omega
 ·exact ⟨g, cap, rfl, h1, h2⟩
theorem TM.at_ {B : Nat} {w : World} {tb m g c : Nat} {E : List NE} {M : List ((Nat × PStep) × Nat)} (h : TM B w tb m (.slice (some ⟨g, 0, none⟩) E.length c) E M) {i : Nat} {e : NE} (he : E[i]? = some e) (k : Nat) (u : Value) (hu : (nc e)[k]? = some u) : w.cell? ⟨g, i * 6 + k, none⟩ = some u := by
 have hk : k < 6 := lt_of_some hu
 have hi := lt_of_some he
 rw [h.ns.cellAt (i * 6 + k) (by omega), flat_at nc 6 (fun _ => rfl) E i k e he hk]; exact hu
theorem TM.parts {B : Nat} {w : World} {tb m : Nat} {v : Value} {E : List NE} {M : List ((Nat × PStep) × Nat)} (h : TM B w tb m v E M) {e : NE} (he : e ∈ E) : ∃ o c, e.u = .slice o e.d.ps.length c := own_slice (h.ps e he)
end Go.Proofs.YteimbjamnfkapaaGreatDoor
