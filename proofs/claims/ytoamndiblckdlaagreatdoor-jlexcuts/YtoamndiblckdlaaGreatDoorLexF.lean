/- What the statements of chapter 7 ask first, over what is asked of the program's Cut. -/
import Derived.Test.YtoamndiblckdlaaGreatDoorLexE
import Derived.Test.YtoamndiblckdlaaGreatDoorRefPlace
import Derived.Test.YtoamndiblckdlaaGreatDoorGlobU
namespace Go.Proofs.YtoamndiblckdlaaGreatDoor
open Go.RowKit

/-- words that lie in memory -/
def InW (w : World) (ws : List Wd) (v : Value) : Prop := ∃ (o : Option Addr) (a : Addr) (cap : Nat), v = .slice o ws.length cap ∧ ws.length ≤ cap ∧ cap ≤ maxLen ∧ (0 < ws.length → o = some a) ∧ ∀ i x, ws[i]? = some x →
  w.cell? (a.add (i * 3)) = some (.int .i64 (x.kd : Nat)) ∧ w.cell? ⟨(a.add (i * 3)).block, (a.add (i * 3)).off + 1, none⟩ = some (.string (mkS x.tx)) ∧ w.cell? ⟨(a.add (i * 3)).block, (a.add (i * 3)).off + 2, none⟩ = some (.int .i64 (x.at_ : Nat))
theorem lkeep {w w' : World} (hb : Below w.heap.size w w') {a : Addr} {v : Value} (hc : w.cell? a = some v) : w'.cell? a = some v := by
  rw [hb.cell (World.block_lt_of_cell? w a hc)]; exact hc
theorem InW.onto {w w' : World} {ws : List Wd} {v : Value} (h : InW w ws v) (hb : Below w.heap.size w w') : InW w' ws v := by
  obtain ⟨o, a, c, h1, h2, h3, h4, h5⟩ := h
  exact ⟨o, a, c, h1, h2, h3, h4, fun i x hx => ⟨lkeep hb (h5 i x hx).1, lkeep hb (h5 i x hx).2.1, lkeep hb (h5 i x hx).2.2⟩⟩
/-- the fault of a text as the program says it -/
def jfV (t : ByteArray) (R : List Wd × Nat × Nat) : Value := if R.2.1 = 0 then .agg #[.int .i64 0, .int .i64 0, .int .i64 0, .int .i64 0] else faultV t (R.2.2 : Nat) (R.2.1 : Nat)
/-- what is asked of the program's Cut -/
def Tryz.JPost (w : World) (t : ByteArray) (e : Ending) (w' : World) : Prop := ∃ v, e = .returned (.tuple #[v, jfV t (cutA t.data.toList)]) ∧ InW w' (cutA t.data.toList).1 v ∧ Below w.heap.size w w'
def Tryz.JHas : Prop := ∀ (t : ByteArray) (w : World), t.size ≤ 1000000 → GlobU w → Calls Tryz.prog 9 #[.string t] w (Tryz.JPost w t)
set_option maxRecDepth 100000 in
theorem jw1 : cutA (⟨#[91, 49, 93]⟩ : ByteArray).data.toList = ([⟨1, [91], 0⟩, ⟨3, [49], 1⟩, ⟨1, [93], 2⟩, ⟨0, [], 3⟩], 0, 0) := by kernel_rfl
set_option maxRecDepth 100000 in
theorem jw2 : cutA (⟨#[32, 64]⟩ : ByteArray).data.toList = ([], 4, 1) := by kernel_rfl
set_option maxRecDepth 100000 in
theorem jw3 : faultV ⟨#[32, 64]⟩ 1 4 = .agg #[.int .i64 4, .int .i64 1, .int .i64 1, .int .i64 2] := by kernel_rfl
theorem jf1 : jfV ⟨#[91, 49, 93]⟩ ([⟨1, [91], 0⟩, ⟨3, [49], 1⟩, ⟨1, [93], 2⟩, ⟨0, [], 3⟩], 0, 0) = .agg #[.int .i64 0, .int .i64 0, .int .i64 0, .int .i64 0] := rfl
theorem jf2 : jfV ⟨#[32, 64]⟩ ([], 4, 1) = .agg #[.int .i64 4, .int .i64 1, .int .i64 1, .int .i64 2] := jw3
set_option maxRecDepth 100000 in
set_option maxHeartbeats 2000000 in
theorem Tryz.awake_of (H : Tryz.JHas) (w : World) (hg : GlobU w) : Calls Tryz.prog 8 #[] w fun e w' => e = .returned (.bool true) ∧ Below w.heap.size w w' := by
  have C1 := hid (fun X h => H ⟨#[91, 49, 93]⟩ X (by decide) h)
  have C2 := hid (fun X h => H ⟨#[32, 64]⟩ X (by decide) h)
  have HG := hid hg
  clear hg
  unfold Tryz.JPost at C1 C2
  rw [jw1, jf1] at C1
  rw [jw2, jf2] at C2
  go_enter Tryz.func8, Tryz.ntmps8
  go_wp2_with fail
  go_at_call 9
  refine (C1.out _ HG.out).mono ?_
  rintro e w1 ⟨v1, rfl, hw1, hb1⟩
  have HW1 := hid hw1
  have HB1 := hid hb1
  clear hw1 hb1
  go_wp2_with fail
  go_at_call 9
  refine (C2.out _ (HG.out.on (lalloc HB1.out _))).mono ?_
  rintro e w2 ⟨v2, rfl, hw2, hb2⟩
  have HB2 := hid (lonto (lalloc HB1.out _) hb2)
  have hbG : Below w2.heap.size w2 (w2.alloc (.cells #[.int .i64 4, .int .i64 1, .int .i64 1, .int .i64 2] 26)) := lalloc (Below.refl _ _) _
  have f0 : (w2.alloc (.cells #[.int .i64 4, .int .i64 1, .int .i64 1, .int .i64 2] 26)).cell? ⟨w1.heap.size, 0, none⟩ = some (.int .i64 0) := lkeep hbG (lkeep hb2 (new_cells w1 [.int .i64 0, .int .i64 0, .int .i64 0, .int .i64 0] 26 0 _ rfl))
  have f1 : (w2.alloc (.cells #[.int .i64 4, .int .i64 1, .int .i64 1, .int .i64 2] 26)).cell? ⟨w1.heap.size, 1, none⟩ = some (.int .i64 0) := lkeep hbG (lkeep hb2 (new_cells w1 [.int .i64 0, .int .i64 0, .int .i64 0, .int .i64 0] 26 1 _ rfl))
  have f2 : (w2.alloc (.cells #[.int .i64 4, .int .i64 1, .int .i64 1, .int .i64 2] 26)).cell? ⟨w1.heap.size, 2, none⟩ = some (.int .i64 0) := lkeep hbG (lkeep hb2 (new_cells w1 [.int .i64 0, .int .i64 0, .int .i64 0, .int .i64 0] 26 2 _ rfl))
  have f3 : (w2.alloc (.cells #[.int .i64 4, .int .i64 1, .int .i64 1, .int .i64 2] 26)).cell? ⟨w1.heap.size, 3, none⟩ = some (.int .i64 0) := lkeep hbG (lkeep hb2 (new_cells w1 [.int .i64 0, .int .i64 0, .int .i64 0, .int .i64 0] 26 3 _ rfl))
  obtain ⟨o, a, c, rfl, h2, h3, h4, h5⟩ := ((HW1.out.onto (lalloc (Below.refl _ _) _)).onto hb2).onto hbG
  obtain rfl := h4 (by decide)
  have p0 : (w2.alloc (.cells #[.int .i64 4, .int .i64 1, .int .i64 1, .int .i64 2] 26)).cell? ⟨a.block, a.off + 3, none⟩ = some (.int .i64 3) := (h5 1 _ rfl).1
  have p1 : (w2.alloc (.cells #[.int .i64 4, .int .i64 1, .int .i64 1, .int .i64 2] 26)).cell? ⟨a.block, a.off + 3 + 1, none⟩ = some (.string ⟨#[49]⟩) := (h5 1 _ rfl).2.1
  have p2 : (w2.alloc (.cells #[.int .i64 4, .int .i64 1, .int .i64 1, .int .i64 2] 26)).cell? ⟨a.block, a.off + 3 + 2, none⟩ = some (.int .i64 1) := (h5 1 _ rfl).2.2
  have q0 : (w2.alloc (.cells #[.int .i64 4, .int .i64 1, .int .i64 1, .int .i64 2] 26)).cell? ⟨a.block, a.off + 9, none⟩ = some (.int .i64 0) := (h5 3 _ rfl).1
  have q1 : (w2.alloc (.cells #[.int .i64 4, .int .i64 1, .int .i64 1, .int .i64 2] 26)).cell? ⟨a.block, a.off + 9 + 1, none⟩ = some (.string ⟨#[]⟩) := (h5 3 _ rfl).2.1
  have q2 : (w2.alloc (.cells #[.int .i64 4, .int .i64 1, .int .i64 1, .int .i64 2] 26)).cell? ⟨a.block, a.off + 9 + 2, none⟩ = some (.int .i64 3) := (h5 3 _ rfl).2.2
  clear h4 h5 hb2 hw2 hbG
  simp only [List.length_cons, List.length_nil] at h2
  go_wp2_with fail
  go_ret
  exact ⟨rfl, lalloc HB2.out _⟩
end Go.Proofs.YtoamndiblckdlaaGreatDoor
