/- The program's printer of JSON: the closures that write a list's part, and a map's. -/
import Derived.Test.YtkhjahpkbjafaaaGreatDoorUJpF
namespace Go.Proofs.YtkhjahpkbjafaaaGreatDoor
open Go.RowKit

theorem Kp.cellk {b : Nat} {w X : World} (h : Kp b w X) {k j : Nat} {cs : Array Value} {t : TypeId} {fz : Nat × Nat} {v : Value} (hk : w.heap[k]? = some (.cells cs t fz)) (hne : k ≠ b) (ht : t ≠ 5) (hv : cs[j]? = some v) : X.cell? ⟨k, j, none⟩ = some v := by
  have := h.2.1 k _ hk (fun e => hne (Option.some.inj e)) (fun c fz e => by injection e with _ e2 _; exact ht e2)
  rw [cell_heap this]; exact hv
/-- what a part's writing leaves -/
def Wr (b : Nat) (l : List UInt8) (inl : Bool) (w : World) (e : Ending) (w' : World) : Prop := e = .returned (.tuple #[]) ∧ Pr w' b l inl ∧ Kp b w w'
set_option maxRecDepth 100000 in
set_option maxHeartbeats 2000000 in
theorem pclos_list (b : Nat) (l g : List UInt8) (inl : Bool) (k : Nat) (t : VT) (xt yt : Value) (p0 p1 p2 : Nat) (a : Addr) (n cap j : Nat) (w : World) (hk : k ≤ 10000) (hj : j < n)
    (h : Pr w b l inl)
    (c0 : ∀ X, Kp b w X → X.cell? ⟨p0, 0, none⟩ = some (.pointer (some ⟨b, 0, none⟩)))
    (c1 : ∀ X, Kp b w X → X.cell? ⟨p1, 3, none⟩ = some (.slice (some a) n cap))
    (c2 : ∀ X, Kp b w X → X.cell? ⟨p2, 0, none⟩ = some (.int .i64 (k : Int)))
    (hN : ∀ X, Kp b w X → Node X (a.add (j * 5)) t xt yt)
    (CV : ∀ X, Kp b w X → Pr X b l inl → Calls Tryz.prog 51 #[.pointer (some ⟨b, 0, none⟩), vv t xt yt, .int .i64 ((k : Int) + 1)] X (Wr b (l ++ g) inl X)) :
    Calls Tryz.prog 68 #[.int .i64 (j : Int), .pointer (some ⟨p0, 0, none⟩), .pointer (some ⟨p1, 0, none⟩), .pointer (some ⟨p2, 0, none⟩)] w (Wr b (l ++ g) inl w) := by
  have d0 := fun X hX => (hN X hX).1
  have d1 := fun X hX => (hN X hX).2.1
  have d2 := fun X hX => (hN X hX).2.2.1
  have d3 := fun X hX => (hN X hX).2.2.2.1
  have d4 := fun X hX => (hN X hX).2.2.2.2
  have HC := hid CV
  have HP := hid h
  simp only [vv] at HC
  clear hN CV h
  have hw1 : IntKind.i64.wrap ((k : Int) + 1) = (k : Int) + 1 := wraps_i64 _ (by omega) (by omega)
  go_enter Tryz.func68, Tryz.ntmps68
  go_upto_region 0 with fail
  refine wp_region_h (S := fun X => Kp b w X) 9 (by kernel_rfl) (by kernel_rfl) ?_
  have hS0 : Kp b w w.drew := Kp.drew w
  refine take_h (i := 0) (v := ?_) rfl (by kernel_rfl) (by kernel_rfl) (by kernel_rfl) (fun _ _ _ h => h) (by rfl) ?_ hS0 ?_
  rotate_left
  · (intro X hX; have y0 := c0 X hX; have y1 := c1 X hX; have y2 := c2 X hX; have z0 := d0 X hX; have z1 := d1 X hX; have z2 := d2 X hX; have z3 := d3 X hX; have z4 := d4 X hX; go_simp; try with_reducible rfl)
  simp only [Act.put, List.setIfInBounds_toArray, List.set_cons_zero, List.set_cons_succ]
  refine take_h (i := 1) (v := ?_) rfl (by kernel_rfl) (by kernel_rfl) (by kernel_rfl) (fun _ _ _ h => h) (by rfl) ?_ hS0 ?_
  rotate_left
  · (intro X hX; have y0 := c0 X hX; have y1 := c1 X hX; have y2 := c2 X hX; have z0 := d0 X hX; have z1 := d1 X hX; have z2 := d2 X hX; have z3 := d3 X hX; have z4 := d4 X hX; go_simp; try with_reducible rfl)
  simp only [Act.put, List.setIfInBounds_toArray, List.set_cons_zero, List.set_cons_succ]
  refine take_h (i := 2) (v := ?_) rfl (by kernel_rfl) (by kernel_rfl) (by kernel_rfl) (fun _ _ _ h => h) (by rfl) ?_ hS0 ?_
  rotate_left
  · (intro X hX; have y0 := c0 X hX; have y1 := c1 X hX; have y2 := c2 X hX; have z0 := d0 X hX; have z1 := d1 X hX; have z2 := d2 X hX; have z3 := d3 X hX; have z4 := d4 X hX; go_simp; try with_reducible rfl)
  simp only [Act.put, List.setIfInBounds_toArray, List.set_cons_zero, List.set_cons_succ]
  refine take_h (i := 3) (v := ?_) rfl (by kernel_rfl) (by kernel_rfl) (by kernel_rfl) (fun _ _ _ h => h) (by rfl) ?_ hS0 ?_
  rotate_left
  · (intro X hX; have y0 := c0 X hX; have y1 := c1 X hX; have y2 := c2 X hX; have z0 := d0 X hX; have z1 := d1 X hX; have z2 := d2 X hX; have z3 := d3 X hX; have z4 := d4 X hX; go_simp; try with_reducible rfl)
  simp only [Act.put, List.setIfInBounds_toArray, List.set_cons_zero, List.set_cons_succ]
  refine take_h (i := 4) (v := ?_) rfl (by kernel_rfl) (by kernel_rfl) (by kernel_rfl) (fun _ _ _ h => h) (by rfl) ?_ hS0 ?_
  rotate_left
  · (intro X hX; have y0 := c0 X hX; have y1 := c1 X hX; have y2 := c2 X hX; have z0 := d0 X hX; have z1 := d1 X hX; have z2 := d2 X hX; have z3 := d3 X hX; have z4 := d4 X hX; go_simp; try with_reducible rfl)
  simp only [Act.put, List.setIfInBounds_toArray, List.set_cons_zero, List.set_cons_succ]
  refine take_h (i := 5) (v := ?_) rfl (by kernel_rfl) (by kernel_rfl) (by kernel_rfl) (fun _ _ _ h => h) (by rfl) ?_ hS0 ?_
  rotate_left
  · (intro X hX; have y0 := c0 X hX; have y1 := c1 X hX; have y2 := c2 X hX; have z0 := d0 X hX; have z1 := d1 X hX; have z2 := d2 X hX; have z3 := d3 X hX; have z4 := d4 X hX; go_simp; try with_reducible rfl)
  simp only [Act.put, List.setIfInBounds_toArray, List.set_cons_zero, List.set_cons_succ]
  refine take_h (i := 6) (v := ?_) rfl (by kernel_rfl) (by kernel_rfl) (by kernel_rfl) (fun _ _ _ h => h) (by rfl) ?_ hS0 ?_
  rotate_left
  · (intro X hX; have y0 := c0 X hX; have y1 := c1 X hX; have y2 := c2 X hX; have z0 := d0 X hX; have z1 := d1 X hX; have z2 := d2 X hX; have z3 := d3 X hX; have z4 := d4 X hX; go_simp; try with_reducible rfl)
  simp only [Act.put, List.setIfInBounds_toArray, List.set_cons_zero, List.set_cons_succ]
  refine take_h (i := 7) (v := ?_) rfl (by kernel_rfl) (by kernel_rfl) (by kernel_rfl) (fun _ _ _ h => h) (by rfl) ?_ hS0 ?_
  rotate_left
  · (intro X hX; have y0 := c0 X hX; have y1 := c1 X hX; have y2 := c2 X hX; have z0 := d0 X hX; have z1 := d1 X hX; have z2 := d2 X hX; have z3 := d3 X hX; have z4 := d4 X hX; go_simp; try with_reducible rfl)
  simp only [Act.put, List.setIfInBounds_toArray, List.set_cons_zero, List.set_cons_succ]
  refine step_h (i := 8) rfl (by kernel_rfl) ?_
  intro KK hKK
  go_simp
  go_wp2_with (go_at_call 51; go_must (refine (HC.out _ hS0 HP.out.drew).mono ?_; rintro e w1 ⟨rfl, hp1, hk1⟩))
  have hS1 : Kp b w w1 := hS0.trans hk1
  refine hKK.out _ _ hS1 (fun _ => ?_)
  clear hKK KK
  refine wpAnyH_done (by kernel_rfl) ?_ _
  go_wp2
  go_end0
  exact ⟨rfl, hp1, hS1⟩
set_option maxRecDepth 100000 in
set_option maxHeartbeats 2000000 in
theorem pclos_map (b : Nat) (l g : List UInt8) (inl : Bool) (k : Nat) (t : VT) (key : ByteArray) (xt yt : Value) (p0 p1 p2 : Nat) (a : Addr) (n cap j : Nat) (w : World) (hk : k ≤ 10000) (hj : j < n) (hks : key.size ≤ 4096) (hl : l.length ≤ 1000000000000)
    (h : Pr w b l inl)
    (c0 : ∀ X, Kp b w X → X.cell? ⟨p0, 0, none⟩ = some (.pointer (some ⟨b, 0, none⟩)))
    (c1 : ∀ X, Kp b w X → X.cell? ⟨p1, 4, none⟩ = some (.slice (some a) n cap))
    (c2 : ∀ X, Kp b w X → X.cell? ⟨p2, 0, none⟩ = some (.int .i64 (k : Int)))
    (dk : ∀ X, Kp b w X → X.cell? (a.add (j * 6)) = some (.string key))
    (hN : ∀ X, Kp b w X → Node X (nx (a.add (j * 6))) t xt yt)
    (CV : ∀ X, Kp b w X → Pr X b (l ++ (qtA false key.data.toList ++ txs (clnT (indO inl 0)))) inl → Calls Tryz.prog 51 #[.pointer (some ⟨b, 0, none⟩), vv t xt yt, .int .i64 ((k : Int) + 1)] X (Wr b (l ++ (qtA false key.data.toList ++ txs (clnT (indO inl 0))) ++ g) inl X)) :
    Calls Tryz.prog 69 #[.int .i64 (j : Int), .pointer (some ⟨p0, 0, none⟩), .pointer (some ⟨p1, 0, none⟩), .pointer (some ⟨p2, 0, none⟩)] w (Wr b (l ++ (qtA false key.data.toList ++ txs (clnT (indO inl 0))) ++ g) inl w) := by
  have d0 := fun X hX => (hN X hX).1
  have d1 := fun X hX => (hN X hX).2.1
  have d2 := fun X hX => (hN X hX).2.2.1
  have d3 := fun X hX => (hN X hX).2.2.2.1
  have d4 := fun X hX => (hN X hX).2.2.2.2
  simp only [nx] at d0 d1 d2 d3 d4
  have HC := hid CV
  have HP := hid h
  have CK := hid (fun X (hX : Pr X b l inl) => pkey_any b l inl key X hX hks hl)
  simp only [vv] at HC
  clear hN CV h
  have hw1 : IntKind.i64.wrap ((k : Int) + 1) = (k : Int) + 1 := wraps_i64 _ (by omega) (by omega)
  go_enter Tryz.func69, Tryz.ntmps69
  go_upto_region 0 with fail
  refine wp_region_h (S := fun X => Kp b w X) 8 (by kernel_rfl) (by kernel_rfl) ?_
  have hS0 : Kp b w w.drew := Kp.drew w
  refine take_h (i := 0) (v := ?_) rfl (by kernel_rfl) (by kernel_rfl) (by kernel_rfl) (fun _ _ _ h => h) (by rfl) ?_ hS0 ?_
  rotate_left
  · (intro X hX; have y0 := c0 X hX; have y1 := c1 X hX; have y2 := c2 X hX; have zk := dk X hX; have z0 := d0 X hX; have z1 := d1 X hX; have z2 := d2 X hX; have z3 := d3 X hX; have z4 := d4 X hX; go_simp; try with_reducible rfl)
  simp only [Act.put, List.setIfInBounds_toArray, List.set_cons_zero, List.set_cons_succ]
  refine take_h (i := 1) (v := ?_) rfl (by kernel_rfl) (by kernel_rfl) (by kernel_rfl) (fun _ _ _ h => h) (by rfl) ?_ hS0 ?_
  rotate_left
  · (intro X hX; have y0 := c0 X hX; have y1 := c1 X hX; have y2 := c2 X hX; have zk := dk X hX; have z0 := d0 X hX; have z1 := d1 X hX; have z2 := d2 X hX; have z3 := d3 X hX; have z4 := d4 X hX; go_simp; try with_reducible rfl)
  simp only [Act.put, List.setIfInBounds_toArray, List.set_cons_zero, List.set_cons_succ]
  refine take_h (i := 2) (v := ?_) rfl (by kernel_rfl) (by kernel_rfl) (by kernel_rfl) (fun _ _ _ h => h) (by rfl) ?_ hS0 ?_
  rotate_left
  · (intro X hX; have y0 := c0 X hX; have y1 := c1 X hX; have y2 := c2 X hX; have zk := dk X hX; have z0 := d0 X hX; have z1 := d1 X hX; have z2 := d2 X hX; have z3 := d3 X hX; have z4 := d4 X hX; go_simp; try with_reducible rfl)
  simp only [Act.put, List.setIfInBounds_toArray, List.set_cons_zero, List.set_cons_succ]
  refine take_h (i := 3) (v := ?_) rfl (by kernel_rfl) (by kernel_rfl) (by kernel_rfl) (fun _ _ _ h => h) (by rfl) ?_ hS0 ?_
  rotate_left
  · (intro X hX; have y0 := c0 X hX; have y1 := c1 X hX; have y2 := c2 X hX; have zk := dk X hX; have z0 := d0 X hX; have z1 := d1 X hX; have z2 := d2 X hX; have z3 := d3 X hX; have z4 := d4 X hX; go_simp; try with_reducible rfl)
  simp only [Act.put, List.setIfInBounds_toArray, List.set_cons_zero, List.set_cons_succ]
  refine take_h (i := 4) (v := ?_) rfl (by kernel_rfl) (by kernel_rfl) (by kernel_rfl) (fun _ _ _ h => h) (by rfl) ?_ hS0 ?_
  rotate_left
  · (intro X hX; have y0 := c0 X hX; have y1 := c1 X hX; have y2 := c2 X hX; have zk := dk X hX; have z0 := d0 X hX; have z1 := d1 X hX; have z2 := d2 X hX; have z3 := d3 X hX; have z4 := d4 X hX; go_simp; try with_reducible rfl)
  simp only [Act.put, List.setIfInBounds_toArray, List.set_cons_zero, List.set_cons_succ]
  refine take_h (i := 5) (v := ?_) rfl (by kernel_rfl) (by kernel_rfl) (by kernel_rfl) (fun _ _ _ h => h) (by rfl) ?_ hS0 ?_
  rotate_left
  · (intro X hX; have y0 := c0 X hX; have y1 := c1 X hX; have y2 := c2 X hX; have zk := dk X hX; have z0 := d0 X hX; have z1 := d1 X hX; have z2 := d2 X hX; have z3 := d3 X hX; have z4 := d4 X hX; go_simp; try with_reducible rfl)
  simp only [Act.put, List.setIfInBounds_toArray, List.set_cons_zero, List.set_cons_succ]
  refine take_h (i := 6) (v := ?_) rfl (by kernel_rfl) (by kernel_rfl) (by kernel_rfl) (fun _ _ _ h => h) (by rfl) ?_ hS0 ?_
  rotate_left
  · (intro X hX; have y0 := c0 X hX; have y1 := c1 X hX; have y2 := c2 X hX; have zk := dk X hX; have z0 := d0 X hX; have z1 := d1 X hX; have z2 := d2 X hX; have z3 := d3 X hX; have z4 := d4 X hX; go_simp; try with_reducible rfl)
  simp only [Act.put, List.setIfInBounds_toArray, List.set_cons_zero, List.set_cons_succ]
  refine step_h (i := 7) rfl (by kernel_rfl) ?_
  intro KK hKK
  go_simp
  go_wp2_with (go_at_call 70; go_must (refine (CK.out _ HP.out.drew).mono ?_; rintro e w1 ⟨rfl, hp1, hk1⟩))
  have hS1 : Kp b w w1 := hS0.trans hk1
  refine hKK.out _ _ hS1 (fun _ => ?_)
  clear hKK KK
  refine wpAnyH_done (by kernel_rfl) ?_ _
  go_upto_region 1 with fail
  refine wp_region_h (S := fun X => Kp b w X) 10 (by kernel_rfl) (by kernel_rfl) ?_
  have hS2 : Kp b w w1.drew := hS1.trans (Kp.drew w1)
  refine take_h (i := 0) (v := ?_) rfl (by kernel_rfl) (by kernel_rfl) (by kernel_rfl) (fun _ _ _ h => h) (by rfl) ?_ hS2 ?_
  rotate_left
  · (intro X hX; have y0 := c0 X hX; have y1 := c1 X hX; have y2 := c2 X hX; have zk := dk X hX; have z0 := d0 X hX; have z1 := d1 X hX; have z2 := d2 X hX; have z3 := d3 X hX; have z4 := d4 X hX; go_simp; try with_reducible rfl)
  simp only [Act.put, List.setIfInBounds_toArray, List.set_cons_zero, List.set_cons_succ]
  refine take_h (i := 1) (v := ?_) rfl (by kernel_rfl) (by kernel_rfl) (by kernel_rfl) (fun _ _ _ h => h) (by rfl) ?_ hS2 ?_
  rotate_left
  · (intro X hX; have y0 := c0 X hX; have y1 := c1 X hX; have y2 := c2 X hX; have zk := dk X hX; have z0 := d0 X hX; have z1 := d1 X hX; have z2 := d2 X hX; have z3 := d3 X hX; have z4 := d4 X hX; go_simp; try with_reducible rfl)
  simp only [Act.put, List.setIfInBounds_toArray, List.set_cons_zero, List.set_cons_succ]
  refine take_h (i := 2) (v := ?_) rfl (by kernel_rfl) (by kernel_rfl) (by kernel_rfl) (fun _ _ _ h => h) (by rfl) ?_ hS2 ?_
  rotate_left
  · (intro X hX; have y0 := c0 X hX; have y1 := c1 X hX; have y2 := c2 X hX; have zk := dk X hX; have z0 := d0 X hX; have z1 := d1 X hX; have z2 := d2 X hX; have z3 := d3 X hX; have z4 := d4 X hX; go_simp; try with_reducible rfl)
  simp only [Act.put, List.setIfInBounds_toArray, List.set_cons_zero, List.set_cons_succ]
  refine take_h (i := 3) (v := ?_) rfl (by kernel_rfl) (by kernel_rfl) (by kernel_rfl) (fun _ _ _ h => h) (by rfl) ?_ hS2 ?_
  rotate_left
  · (intro X hX; have y0 := c0 X hX; have y1 := c1 X hX; have y2 := c2 X hX; have zk := dk X hX; have z0 := d0 X hX; have z1 := d1 X hX; have z2 := d2 X hX; have z3 := d3 X hX; have z4 := d4 X hX; go_simp; try with_reducible rfl)
  simp only [Act.put, List.setIfInBounds_toArray, List.set_cons_zero, List.set_cons_succ]
  refine take_h (i := 4) (v := ?_) rfl (by kernel_rfl) (by kernel_rfl) (by kernel_rfl) (fun _ _ _ h => h) (by rfl) ?_ hS2 ?_
  rotate_left
  · (intro X hX; have y0 := c0 X hX; have y1 := c1 X hX; have y2 := c2 X hX; have zk := dk X hX; have z0 := d0 X hX; have z1 := d1 X hX; have z2 := d2 X hX; have z3 := d3 X hX; have z4 := d4 X hX; go_simp; try with_reducible rfl)
  simp only [Act.put, List.setIfInBounds_toArray, List.set_cons_zero, List.set_cons_succ]
  refine take_h (i := 5) (v := ?_) rfl (by kernel_rfl) (by kernel_rfl) (by kernel_rfl) (fun _ _ _ h => h) (by rfl) ?_ hS2 ?_
  rotate_left
  · (intro X hX; have y0 := c0 X hX; have y1 := c1 X hX; have y2 := c2 X hX; have zk := dk X hX; have z0 := d0 X hX; have z1 := d1 X hX; have z2 := d2 X hX; have z3 := d3 X hX; have z4 := d4 X hX; go_simp; try with_reducible rfl)
  simp only [Act.put, List.setIfInBounds_toArray, List.set_cons_zero, List.set_cons_succ]
  refine take_h (i := 6) (v := ?_) rfl (by kernel_rfl) (by kernel_rfl) (by kernel_rfl) (fun _ _ _ h => h) (by rfl) ?_ hS2 ?_
  rotate_left
  · (intro X hX; have y0 := c0 X hX; have y1 := c1 X hX; have y2 := c2 X hX; have zk := dk X hX; have z0 := d0 X hX; have z1 := d1 X hX; have z2 := d2 X hX; have z3 := d3 X hX; have z4 := d4 X hX; go_simp; try with_reducible rfl)
  simp only [Act.put, List.setIfInBounds_toArray, List.set_cons_zero, List.set_cons_succ]
  refine take_h (i := 7) (v := ?_) rfl (by kernel_rfl) (by kernel_rfl) (by kernel_rfl) (fun _ _ _ h => h) (by rfl) ?_ hS2 ?_
  rotate_left
  · (intro X hX; have y0 := c0 X hX; have y1 := c1 X hX; have y2 := c2 X hX; have zk := dk X hX; have z0 := d0 X hX; have z1 := d1 X hX; have z2 := d2 X hX; have z3 := d3 X hX; have z4 := d4 X hX; go_simp; try with_reducible rfl)
  simp only [Act.put, List.setIfInBounds_toArray, List.set_cons_zero, List.set_cons_succ]
  refine take_h (i := 8) (v := ?_) rfl (by kernel_rfl) (by kernel_rfl) (by kernel_rfl) (fun _ _ _ h => h) (by rfl) ?_ hS2 ?_
  rotate_left
  · (intro X hX; have y0 := c0 X hX; have y1 := c1 X hX; have y2 := c2 X hX; have zk := dk X hX; have z0 := d0 X hX; have z1 := d1 X hX; have z2 := d2 X hX; have z3 := d3 X hX; have z4 := d4 X hX; go_simp; try with_reducible rfl)
  simp only [Act.put, List.setIfInBounds_toArray, List.set_cons_zero, List.set_cons_succ]
  refine step_h (i := 9) rfl (by kernel_rfl) ?_
  intro KK hKK
  go_simp
  go_wp2_with (go_at_call 51; go_must (refine (HC.out _ hS2 hp1.drew).mono ?_; rintro e w3 ⟨rfl, hp3, hk3⟩))
  have hS3 : Kp b w w3 := hS2.trans hk3
  refine hKK.out _ _ hS3 (fun _ => ?_)
  clear hKK KK
  refine wpAnyH_done (by kernel_rfl) ?_ _
  go_wp2
  go_end0
  exact ⟨rfl, hp3, hS3⟩
end Go.Proofs.YtkhjahpkbjafaaaGreatDoor
