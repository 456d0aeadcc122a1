
import Derived.Test.YtkhjahpkbjafaaaGreatDoorTRef8All
import Derived.Test.YtkhjahpkbjafaaaGreatDoorTJxOne
import Derived.WalkSmall
import Derived.Defers
import Derived.Recover
import Derived.Test.YtkhjahpkbjafaaaGreatDoorTVRise
import Derived.Test.YtkhjahpkbjafaaaGreatDoorTMathParts
/- The program's reader of words: its memory; a step, a mark, what begins a value. -/
/- The program's reader of words: a fault is a panic. -/
/- The program's Parse: what is deferred. -/
/- The program's Parse over its read. -/
/- The program's Parse over a read that answers. -/
/- The program's Valid over its read. -/
/- The program's single: a word that says a value alone. -/
/- The program's reader: what a word says alone; what its calls promise. -/
/- The program's reader: a value. -/
/- The program's reader: parts with a comma between, over whatever reads a part. -/
namespace Go.Proofs.YtkhjahpkbjafaaaGreatDoor
open Go.RowKit

/-- the program's reader in memory: the text, the words ahead, how many nodes have begun -/
structure Jr (w : World) (b : Nat) (t : ByteArray) (v : Value) (n : Nat) : Prop where
  r0 : w.cell? ⟨b, 0, none⟩ = some (.string t)
  r1 : w.cell? ⟨b, 1, none⟩ = some v
  r2 : w.cell? ⟨b, 2, none⟩ = some (.int .i64 (n : Int))
  row : Row w b 67 3
theorem Jr.onto {w w' : World} {b : Nat} {t : ByteArray} {v : Value} {n : Nat} (h : Jr w b t v n) (hb : Below w.heap.size w w') : Jr w' b t v n :=
  ⟨keepCell hb h.r0, keepCell hb h.r1, keepCell hb h.r2, h.row.onto (hb.block b h.row.lt)⟩
/-- the block that a slice lies in -/
def blkV : Value → Option Nat
  | .slice (some a) _ _ => some a.block
  | _ => none
/-- can a value begin with a word? -/
def begB (x : Wd) : Bool := decide (¬ (x.kd = 0 ∨ (x.kd = 1 ∧ x.tx ≠ [123] ∧ x.tx ≠ [91])))
end Go.Proofs.YtkhjahpkbjafaaaGreatDoor
namespace Go.Proofs.YtkhjahpkbjafaaaGreatDoor
open Go.RowKit

/-- the fault at the word ahead, panicked -/
def Faulted (t : ByteArray) (er at_ : Nat) (e : Ending) : Prop := e = .panicked [{ v := .iface 30 (faultV t (at_ : Int) (er : Int)), recovered := false }]
end Go.Proofs.YtkhjahpkbjafaaaGreatDoor
namespace Go.Proofs.YtkhjahpkbjafaaaGreatDoor
open Go.RowKit

end Go.Proofs.YtkhjahpkbjafaaaGreatDoor
namespace Go.Proofs.YtkhjahpkbjafaaaGreatDoor
open Go.RowKit

/-- what read ends in: a value, or the fault, panicked -/
def Jp (t : ByteArray) (R : Rd) (w : World) (e : Ending) (w' : World) : Prop := match R with
  | .ok T _ _ => ∃ o n c o' n' c', e = .returned (vv T (.slice o n c) (.slice o' n' c')) ∧ HS w' (fun k => w.heap.size ≤ k ∧ k < w'.heap.size) T (.slice o n c) (.slice o' n' c') ∧ Below w.heap.size w w'
  | .bad er a => Faulted t er a e ∧ Below w.heap.size w w'
/-- what Parse ends in -/
def Jq (t : ByteArray) (R : Rd) (w : World) (e : Ending) (w' : World) : Prop := match R with
  | .ok T _ _ => ∃ o n c o' n' c', e = .returned (.tuple #[vv T (.slice o n c) (.slice o' n' c'), .agg #[.int .i64 0, .int .i64 0, .int .i64 0, .int .i64 0]]) ∧ HS w' (fun k => w.heap.size ≤ k ∧ k < w'.heap.size) T (.slice o n c) (.slice o' n' c') ∧ Below w.heap.size w w'
  | .bad er a => e = .returned (.tuple #[vv zeroT (.slice none 0 0) (.slice none 0 0), faultV t (a : Int) (er : Int)]) ∧ Below w.heap.size w w'
end Go.Proofs.YtkhjahpkbjafaaaGreatDoor
namespace Go.Proofs.YtkhjahpkbjafaaaGreatDoor
open Go.RowKit

end Go.Proofs.YtkhjahpkbjafaaaGreatDoor
namespace Go.Proofs.YtkhjahpkbjafaaaGreatDoor
open Go.RowKit

/-- the errno of an outcome -/
def rdErr : Rd → Nat
  | .ok _ _ _ => 0
  | .bad er _ => er
end Go.Proofs.YtkhjahpkbjafaaaGreatDoor
namespace Go.Proofs.YtkhjahpkbjafaaaGreatDoor
open Go.RowKit

end Go.Proofs.YtkhjahpkbjafaaaGreatDoor
namespace Go.Proofs.YtkhjahpkbjafaaaGreatDoor
open Go.RowKit

/-- what a word says alone -/
def sgT (x : Wd) : VT := if x.kd = 2 then leafT 4 0 (mkS x.tx) else if x.kd = 3 then numT x.tx else litT x.tx
/-- the library's variables, elder than the reader -/
def Gb (b : Nat) (w : World) : Prop := ∃ u, Glob u ∧ u.heap.size ≤ b ∧ Below u.heap.size u w
theorem Gb.own {b : Nat} {w w' : World} (h : Gb b w) (ho : Own b w w') : Gb b w' := by
  obtain ⟨u, h1, h2, h3⟩ := h
  exact ⟨u, h1, h2, own_bel h3 ho h2⟩
/-- the program's reader stands ahead of some words -/
structure Aj (w : World) (b : Nat) (t : ByteArray) (v : Value) (ws : List Wd) (n : Nat) : Prop where
  jr : Jr w b t v n
  wm : Wm w b ws v
  ends : EndW ws
  fine : ∀ x ∈ ws, Fine x
  len : ws.length ≤ 100000
  txt : ∀ x ∈ ws, x.tx.length ≤ 65536
  nod : n ≤ 4096
  tsz : t.size ≤ 1000000
  gl : Gb b w
/-- what a call of the program's reader ends in -/
def Rj (b : Nat) (t : ByteArray) (v : Value) (R : Rd) (w : World) (e : Ending) (w' : World) : Prop := match R with
  | .ok T m q => ∃ X Y v', e = .returned (vv T X Y) ∧ Jr w' b t v' m ∧ Wm w' b q v' ∧ blkV v' = blkV v ∧ HS w' (fun k => w.heap.size ≤ k ∧ k < w'.heap.size) T X Y ∧ Own b w w'
  | .bad er at_ => Faulted t er at_ e ∧ Own b w w'
def JvOk (N : Nat) : Prop := ∀ (b : Nat) (t : ByteArray) (v : Value) (ws : List Wd) (n d : Nat) (w : World) (f : Nat), Aj w b t v ws n → d ≤ 1000 → ws.length ≤ N → 2 * ws.length + 1 ≤ f →
    Calls Tryz.prog 41 #[.pointer (some ⟨b, 0, none⟩), .int .i64 (d : Int)] w (Rj b t v (jrV f d n ws) w)
def JlOk (N : Nat) : Prop := ∀ (b : Nat) (t : ByteArray) (v : Value) (ws : List Wd) (n d : Nat) (w : World) (f : Nat), Aj w b t v ws n → d ≤ 32 → ws.length ≤ N → 2 * ws.length + 2 ≤ f →
    Calls Tryz.prog 61 #[.pointer (some ⟨b, 0, none⟩), .int .i64 (d : Int)] w (Rj b t v (if isM 93 ws = true then .ok (listT []) n ws.tail else jrL f d n [] ws) w)
def JpOk (N : Nat) : Prop := ∀ (b : Nat) (t : ByteArray) (v : Value) (ws : List Wd) (n d : Nat) (w : World) (f : Nat), Aj w b t v ws n → d ≤ 32 → ws.length ≤ N → 2 * ws.length + 2 ≤ f →
    Calls Tryz.prog 62 #[.pointer (some ⟨b, 0, none⟩), .int .i64 (d : Int)] w (Rj b t v (if isM 125 ws = true then .ok (mapT []) n ws.tail else jrP f d n [] ws) w)
theorem Jr.same {w w' : World} {b : Nat} {t : ByteArray} {v : Value} {n : Nat} (h : Jr w b t v n) (e : w'.heap[b]? = w.heap[b]?) : Jr w' b t v n := by
  have c : ∀ o, w'.cell? ⟨b, o, none⟩ = w.cell? ⟨b, o, none⟩ := fun o => World.cell?_of_block (w := w) e
  exact ⟨(c 0).trans h.r0, (c 1).trans h.r1, (c 2).trans h.r2, h.row.onto e⟩
theorem Wm.blk {w : World} {b : Nat} {x : Wd} {r : List Wd} {v : Value} (h : Wm w b (x :: r) v) : ∃ K, blkV v = some K ∧ K < w.heap.size ∧ ¬ K = b := by
  obtain ⟨o, a, c, h1, h2, h3, h4, h0, h5⟩ := h
  have ho := h4 (by simp)
  subst ho
  have hc := (h5 0 x rfl).1
  have := World.block_lt_of_cell? w _ hc
  rw [addr_block] at this
  exact ⟨a.block, by rw [h1]; rfl, this, h0⟩
end Go.Proofs.YtkhjahpkbjafaaaGreatDoor
namespace Go.Proofs.YtkhjahpkbjafaaaGreatDoor
open Go.RowKit

theorem beg_yes {x : Wd} (h : begB x = true) : ¬ (x.kd = 0 ∨ (x.kd = 1 ∧ x.tx ≠ [123] ∧ x.tx ≠ [91])) := by
  unfold begB at h
  rwa [decide_eq_true_eq] at h
section
variable {g d n : Nat} {x : Wd} {r : List Wd}
end
end Go.Proofs.YtkhjahpkbjafaaaGreatDoor
namespace Go.Proofs.YtkhjahpkbjafaaaGreatDoor
open Go.RowKit

section
variable {σ : Type}
/-- where reading parts stands: the reader, its words' block, what is read so far -/
structure Pv (w0 : World) (b : Nat) (t : ByteArray) (K : Nat) (Acc : σ → Nat → World → Prop) (s : σ) (n : Nat) (ws : List Wd) (v : Value) (W : World) : Prop where
  aj : Aj W b t v ws n
  blk : blkV v = some K
  acc : Acc s n W
  own : Own b w0 W
/-- what reading a part, or parts, ends in -/
def Ps (w0 : World) (b : Nat) (t : ByteArray) (K : Nat) (Acc : σ → Nat → World → Prop) (R : Sd σ) (e : Ending) (w' : World) : Prop := match R with
  | .ok s m q => e = .returned (.tuple #[]) ∧ ∃ v', Pv w0 b t K Acc s m q v' w'
  | .bad er a => Faulted t er a e ∧ Own b w0 w'
end
/-- how long a slice is -/
def lenV : Value → Nat
  | .slice _ n _ => n
  | _ => 0
theorem Wm.len {w : World} {b : Nat} {ws : List Wd} {v : Value} (h : Wm w b ws v) : lenV v = ws.length := by
  obtain ⟨o, a, c, h1, -⟩ := h
  rw [h1]; rfl
theorem Pv.cell {σ : Type} {w0 : World} {b : Nat} {t : ByteArray} {K : Nat} {Acc : σ → Nat → World → Prop} {s : σ} {n : Nat} {ws : List Wd} {v : Value} {W : World} (h : Pv w0 b t K Acc s n ws v W) : lenV ((W.cell? ⟨b, 1, none⟩).getD undef) = ws.length := by
  rw [h.aj.jr.r1]; exact h.aj.wm.len
/-- behind a mark -/
theorem Pv.tail {σ : Type} {w0 : World} {b : Nat} {t : ByteArray} {K : Nat} {Acc : σ → Nat → World → Prop} {s : σ} {n : Nat} {x : Wd} {r : List Wd} {v v' : Value} {W W' : World} {c : UInt8} (h : Pv w0 b t K Acc s n (x :: r) v W) (hacc : ∀ s n W W', Acc s n W → Own b W W' → Acc s n W') (hm : isM c (x :: r) = true) (h1 : Jr W' b t v' n) (h2 : Wm W' b r v') (h3 : Own b W W') (h4 : blkV v' = blkV v) : Pv w0 b t K Acc s n r v' W' := by
  have hl := h.aj.len
  simp only [List.length_cons] at hl
  exact ⟨⟨h1, h2, isM_tail h.aj.ends hm, fun y hy => h.aj.fine y (List.mem_cons_of_mem _ hy), by omega, fun y hy => h.aj.txt y (List.mem_cons_of_mem _ hy), h.aj.nod, h.aj.tsz, h.aj.gl.own h3⟩, h4.trans h.blk, hacc _ _ _ _ h.acc h3, h.own.trans h3⟩
end Go.Proofs.YtkhjahpkbjafaaaGreatDoor
