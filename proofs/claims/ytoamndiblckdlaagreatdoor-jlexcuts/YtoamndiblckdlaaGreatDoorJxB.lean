/- jlex.piece, refuse: walked. -/
import Derived.Test.YtoamndiblckdlaaGreatDoorJxA
namespace Go.Proofs.YtoamndiblckdlaaGreatDoor
open Go.RowKit

/-- the world with the boxes of a word and of a fault -/
def Tryz.pw0 (w : World) : World := w.alloc (.cells #[.int .i64 0, .string ⟨#[]⟩, .int .i64 0] 37)
def Tryz.pwW (w : World) : World := (Tryz.pw0 w).alloc (.cells #[.int .i64 0, .int .i64 0, .int .i64 0, .int .i64 0] 26)
theorem Tryz.pw_size (w : World) : (Tryz.pwW w).heap.size = w.heap.size + 2 := by unfold Tryz.pwW Tryz.pw0; simp
theorem Tryz.pw0_size (w : World) : (Tryz.pw0 w).heap.size = w.heap.size + 1 := by unfold Tryz.pw0; simp
theorem Tryz.pw_bel (w : World) : Below w.heap.size w (Tryz.pwW w) := ((Below.refl _ _).alloc (Nat.le_refl _) _).alloc (by simp) _
theorem Tryz.pw_keeps {w wr : World} (h : Below (Tryz.pwW w).heap.size (Tryz.pwW w) wr) :
    (wr.cell? ⟨w.heap.size, 0, none⟩ = some (.int .i64 0) ∧ wr.cell? ⟨w.heap.size, 1, none⟩ = some (.string ⟨#[]⟩) ∧ wr.cell? ⟨w.heap.size, 2, none⟩ = some (.int .i64 0) ∧ ∀ o, wr.frozen? ⟨w.heap.size, o, none⟩ = false)
    ∧ (wr.cell? ⟨w.heap.size + 1, 0, none⟩ = some (.int .i64 0) ∧ wr.cell? ⟨w.heap.size + 1, 1, none⟩ = some (.int .i64 0) ∧ wr.cell? ⟨w.heap.size + 1, 2, none⟩ = some (.int .i64 0) ∧ wr.cell? ⟨w.heap.size + 1, 3, none⟩ = some (.int .i64 0) ∧ ∀ o, wr.frozen? ⟨w.heap.size + 1, o, none⟩ = false)
    ∧ w.heap.size + 1 < wr.heap.size := by
  have hs := Tryz.pw_size w
  have hs0 := Tryz.pw0_size w
  have h0 := h.size
  have ha : Below (Tryz.pw0 w).heap.size (Tryz.pw0 w) (Tryz.pwW w) := (Below.refl _ _).alloc (Nat.le_refl _) _
  have k0 : ∀ i u, ([.int .i64 0, .string ⟨#[]⟩, .int .i64 0] : List Value)[i]? = some u → wr.cell? (Addr.add ⟨w.heap.size, 0, none⟩ i) = some u := fun i u hi => by
    have e := new_cells w [.int .i64 0, .string ⟨#[]⟩, .int .i64 0] 37 i u hi
    have hb := World.block_lt_of_cell? _ _ e
    rw [h.cell (by have : (Addr.add ⟨w.heap.size, 0, none⟩ i).block < (Tryz.pw0 w).heap.size := hb; omega), ha.cell hb]; exact e
  have k1 : ∀ i u, ([.int .i64 0, .int .i64 0, .int .i64 0, .int .i64 0] : List Value)[i]? = some u → wr.cell? (Addr.add ⟨(Tryz.pw0 w).heap.size, 0, none⟩ i) = some u := fun i u hi => by
    have e := new_cells (Tryz.pw0 w) [.int .i64 0, .int .i64 0, .int .i64 0, .int .i64 0] 26 i u hi
    have hb := World.block_lt_of_cell? _ _ e
    rw [h.cell hb]; exact e
  rw [hs0] at k1
  refine ⟨⟨k0 0 _ rfl, k0 1 _ rfl, k0 2 _ rfl, fun o => ?_⟩, ⟨k1 0 _ rfl, k1 1 _ rfl, k1 2 _ rfl, k1 3 _ rfl, fun o => ?_⟩, by omega⟩
  · rw [h.frozen (by show w.heap.size < _; omega), ha.frozen (by show w.heap.size < _; omega)]
    unfold Tryz.pw0; rw [World.frozen?_alloc_at _ _ _ _ rfl]
  · rw [h.frozen (by show w.heap.size + 1 < _; omega), ← hs0]
    unfold Tryz.pwW; rw [World.frozen?_alloc_at _ _ _ _ rfl]
theorem set7 {B b c : Nat} {a w : World} {x1 x2 x3 x4 x5 x6 x7 : Value} (h : Below B a w) (hb : B ≤ b) (hc : B ≤ c) :
    Below B a (((((((w.setCell ⟨b, 0, none⟩ x1).setCell ⟨b, 1, none⟩ x2).setCell ⟨b, 2, none⟩ x3).setCell ⟨c, 0, none⟩ x4).setCell ⟨c, 1, none⟩ x5).setCell ⟨c, 2, none⟩ x6).setCell ⟨c, 3, none⟩ x7) :=
  ((((((h.setCell hb _).setCell hb _).setCell hb _).setCell hc _).setCell hc _).setCell hc _).setCell hc _
set_option maxRecDepth 100000 in
theorem clone_any (s : ByteArray) (w : World) (hs : s.size ≤ 1000000) :
    Calls Tryz.prog 45 #[.string s] w fun e w' => e = .returned (.string s) ∧ Below w.heap.size w w' := by
  have C := hid (fun X => Tryz.stringslite_Clone s X (by omega))
  go_enter Tryz.func45, Tryz.ntmps45
  go_wp2_with (go_at_call 57; go_must (refine (C.out _).mono ?_; rintro e w1 ⟨rfl, hb⟩))
  go_ret
  exact ⟨rfl, hb⟩
set_option maxRecDepth 100000 in
set_option maxHeartbeats 1000000 in
theorem piece_any (t : ByteArray) (a n : Nat) (k : Int) (w : World) (ht : t.size ≤ 1000000) (ha : a ≤ n) (hn : n ≤ t.size) :
    Calls Tryz.prog 29 #[.string t, .int .i64 (a : Int), .int .i64 (n : Int), .int .i64 k] w fun e w' => e = .returned (.tuple #[.agg #[.int .i64 k, .string (t.extract a n), .int .i64 (a : Int)], .int .i64 (n : Int), .agg #[.int .i64 0, .int .i64 0, .int .i64 0, .int .i64 0]]) ∧ Below w.heap.size w w' := by
  have hz : (t.extract a n).size ≤ 1000000 := by simp; omega
  have C := hid (fun X => clone_any (t.extract a n) X hz)
  clear hz
  obtain ⟨m, hm⟩ : ∃ m, t.extract a n = m := ⟨_, rfl⟩
  rw [hm] at C ⊢
  go_enter Tryz.func29, Tryz.ntmps29
  go_wp2_with fail
  go_at_call 45
  refine (C.out _).mono ?_
  rintro e w1 ⟨rfl, hb⟩
  have HW : Hid (Below (Tryz.pwW w).heap.size (Tryz.pwW w) w1) := hb
  obtain ⟨⟨a0, a1, a2, a3⟩, ⟨b0, b1, b2, b3, b4⟩, hz⟩ := Tryz.pw_keeps HW.out
  clear hb
  go_wp2_with fail
  refine bodyPost_ret (v := .tuple #[.agg #[.int .i64 k, .string m, .int .i64 (a : Int)], .int .i64 (n : Int), .agg #[.int .i64 0, .int .i64 0, .int .i64 0, .int .i64 0]]) (by simp [results, Tryz.results29, go_sem, a0, a1, a2, b0, b1, b2, b3]) rfl ⟨rfl, ?_⟩
  exact set7 (onto (Tryz.pw_bel w) HW.out) (Nat.le_refl _) (Nat.le_succ _)
set_option maxRecDepth 100000 in
set_option maxHeartbeats 1000000 in
theorem refuse_any (t : ByteArray) (a : Int) (x : Int) (w : World) (ht : t.size ≤ 1000000) :
    Calls Tryz.prog 33 #[.string t, .int .i64 a, .int .i64 x] w fun e w' => e = .returned (.tuple #[.agg #[.int .i64 0, .string ⟨#[]⟩, .int .i64 0], .int .i64 0, faultV t a x]) ∧ Below w.heap.size w w' := by
  have C := hid (fun X => fault_any t a x X ht)
  unfold faultV at C ⊢
  obtain ⟨f1, h1⟩ : ∃ f1, clN t.size a = f1 := ⟨_, rfl⟩
  obtain ⟨f2, h2⟩ : ∃ f2, ofL t a = f2 := ⟨_, rfl⟩
  obtain ⟨f3, h3⟩ : ∃ f3, ofC t a = f3 := ⟨_, rfl⟩
  rw [h1, h2, h3] at C ⊢
  clear h1 h2 h3
  go_enter Tryz.func33, Tryz.ntmps33
  go_wp2_with fail
  go_at_call 13
  refine (C.out _).mono ?_
  rintro e w1 ⟨rfl, hb⟩
  have HW : Hid (Below (Tryz.pwW w).heap.size (Tryz.pwW w) w1) := hb
  obtain ⟨⟨a0, a1, a2, a3⟩, ⟨b0, b1, b2, b3, b4⟩, hz⟩ := Tryz.pw_keeps HW.out
  clear hb
  go_wp2_with fail
  refine bodyPost_ret (v := .tuple #[.agg #[.int .i64 0, .string ⟨#[]⟩, .int .i64 0], .int .i64 0, .agg #[.int .i64 x, .int .i64 f1, .int .i64 f2, .int .i64 f3]]) (by simp [results, Tryz.results33, go_sem, a0, a1, a2, b0, b1, b2, b3]) rfl ⟨rfl, ?_⟩
  exact set7 (onto (Tryz.pw_bel w) HW.out) (Nat.le_refl _) (Nat.le_succ _)
end Go.Proofs.YtoamndiblckdlaaGreatDoor
