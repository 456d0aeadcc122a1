/- The document's own Copy of a tree, walked: the walk. -/
import Derived.Test.YtgfkhnpbkdddbaaGreatDoorRefCopy
import Derived.Test.YtgfkhnpbkdddbaaGreatDoorEnds
import Derived.Deep.RegionHeld
namespace Go.Proofs.YtgfkhnpbkdddbaaGreatDoor
open Go.RowKit

/-- the three boxes of Copy -/
def CSt (w wr : World) (v0 v1 v2 v3 v4 cl cm : Value) : Prop := Bx5 wr w.heap.size v0 v1 v2 v3 v4 ∧ Row wr (w.heap.size + 1) 28 5 ∧ Row wr (w.heap.size + 2) 28 5 ∧ Bx5 wr (w.heap.size + 2) v0 v1 v2 cl cm ∧ Below w.heap.size w wr ∧ w.heap.size + 3 ≤ wr.heap.size
theorem CSt.onto {w wr w' : World} {v0 v1 v2 v3 v4 cl cm : Value} (h : CSt w wr v0 v1 v2 v3 v4 cl cm) (hb : Below (w.heap.size + 3) wr w') : CSt w w' v0 v1 v2 v3 v4 cl cm := by
  obtain ⟨h1, h2, h3, h4, h5, h6⟩ := h
  have hs := hb.size
  exact ⟨h1.same (hb.block _ (by omega)), h2.onto (hb.block _ (by omega)), h3.onto (hb.block _ (by omega)), h4.same (hb.block _ (by omega)), h5.trans (hb.mono (by omega)), by omega⟩
theorem CSt.set3 {w wr : World} {v0 v1 v2 v3 v4 cl cm : Value} (h : CSt w wr v0 v1 v2 v3 v4 cl cm) (u : Value) : CSt w (wr.setCell ⟨w.heap.size + 2, 3, none⟩ u) v0 v1 v2 v3 v4 u cm := by
  obtain ⟨h1, h2, h3, ⟨g0, g1, g2, g3, g4⟩, h5, h6⟩ := h
  refine ⟨h1.same (Below.heap_setCell _ _ _ _ (by simp)), h2.set _ _, h3.set _ _, ⟨?_, ?_, ?_, ?_, ?_⟩, vset_bel h5 (by simp), by simpa using h6⟩
  · rw [set_other _ _ _ _ _ _ (Or.inr (by omega))]; exact g0
  · rw [set_other _ _ _ _ _ _ (Or.inr (by omega))]; exact g1
  · rw [set_other _ _ _ _ _ _ (Or.inr (by omega))]; exact g2
  · exact set_same h3 (by omega) _
  · rw [set_other _ _ _ _ _ _ (Or.inr (by omega))]; exact g4
theorem CSt.set4 {w wr : World} {v0 v1 v2 v3 v4 cl cm : Value} (h : CSt w wr v0 v1 v2 v3 v4 cl cm) (u : Value) : CSt w (wr.setCell ⟨w.heap.size + 2, 4, none⟩ u) v0 v1 v2 v3 v4 cl u := by
  obtain ⟨h1, h2, h3, ⟨g0, g1, g2, g3, g4⟩, h5, h6⟩ := h
  refine ⟨h1.same (Below.heap_setCell _ _ _ _ (by simp)), h2.set _ _, h3.set _ _, ⟨?_, ?_, ?_, ?_, ?_⟩, vset_bel h5 (by simp), by simpa using h6⟩
  · rw [set_other _ _ _ _ _ _ (Or.inr (by omega))]; exact g0
  · rw [set_other _ _ _ _ _ _ (Or.inr (by omega))]; exact g1
  · rw [set_other _ _ _ _ _ _ (Or.inr (by omega))]; exact g2
  · rw [set_other _ _ _ _ _ _ (Or.inr (by omega))]; exact g3
  · exact set_same h3 (by omega) _
theorem set_grown (w : World) (b o : Nat) (u : Value) : w.grownBy (w.setCell ⟨b, o, none⟩ u) (some b) := ⟨rfl, rfl, rfl, by simp, fun k _ hk => Below.heap_setCell _ _ _ _ (fun e => hk (by rw [e]))⟩
theorem Copied.set {w : World} {lo : Nat} {v : Value} {L : List VT} {j : Nat} {E : List (VT × Value × Value)} (h : Copied w lo v L j E) (b o : Nat) (u : Value) (hb : b < lo) : Copied (w.setCell ⟨b, o, none⟩ u) lo v L j E := by
  obtain ⟨h1, h2, h3, h4⟩ := h
  refine ⟨h1, h2, h3.kept (set_grown w b o u) ?_, fun e he => (h4 e he).onto (fun k hk => Below.heap_setCell _ _ _ _ (by show k ≠ b; omega)) (fun k hk => by simpa using hk)⟩
  cases hv : v.ownBlock with
  | none => exact Or.inl rfl
  | some g => have := h3.lt g hv; exact Or.inr (fun e => by injection e with e; omega)
theorem CopiedM.set {w : World} {lo : Nat} {v : Value} {K : List ByteArray} {V : List VT} {j : Nat} {E : List (ByteArray × VT × Value × Value)} (h : CopiedM w lo v K V j E) (b o : Nat) (u : Value) (hb : b < lo) : CopiedM (w.setCell ⟨b, o, none⟩ u) lo v K V j E := by
  obtain ⟨h1, h2, h2', h3, h4⟩ := h
  refine ⟨h1, h2, h2', h3.kept (set_grown w b o u) ?_, fun e he => ⟨(h4 e he).1, (h4 e he).2.onto (fun k hk => Below.heap_setCell _ _ _ _ (by show k ≠ b; omega)) (fun k hk => by simpa using hk)⟩⟩
  cases hv : v.ownBlock with
  | none => exact Or.inl rfl
  | some g => have := h3.lt g hv; exact Or.inr (fun e => by injection e with e; omega)
theorem pc_one' (c : ByteArray) (t : VT) (o : Option Addr) (n k : Nat) (o' : Option Addr) (n' k' : Nat) : ∀ u ∈ pc (c, t, .slice o n k, .slice o' n' k'), u.oneCell' = true := by
  intro u hu
  unfold pc at hu
  simp at hu
  rcases hu with rfl | rfl | rfl | rfl | rfl | rfl <;> rfl
theorem rcopy_step {t : VT} (h : RCopyOk t) {x y : Value} {wr : World} (hT : HV wr t x y) (X : World) (hX : Below wr.heap.size wr X) :
    Calls Tryz.prog 29 #[.agg #[.int .i64 t.kd, .int .i64 t.nm, .string t.st, x, y]] X fun e w1 => ∃ o n c o' n' c', e = .returned (.agg #[.int .i64 t.kd, .int .i64 t.nm, .string t.st, .slice o n c, .slice o' n' c']) ∧ HS w1 (fun k => wr.heap.size ≤ k ∧ k < w1.heap.size) t (.slice o n c) (.slice o' n' c') ∧ Below wr.heap.size wr w1 := by
  refine (h x y X (hT.onto hX)).mono ?_
  rintro e w1 ⟨X', Y', rfl, hs, hb⟩
  obtain ⟨o, n, c, o', n', c', rfl, rfl⟩ := hv_slices hs.hv
  have := hX.size
  exact ⟨o, n, c, o', n', c', rfl, hs.onto (fun _ _ => rfl) (fun k hk => ⟨by omega, hk.2⟩), vonto hX hb⟩
theorem cst_start (w : World) (v0 v1 v2 v3 v4 : Value) (z : Array Value) (hz : z.size = 5) : CSt w (((w.alloc (.cells #[v0, v1, v2, v3, v4] 28)).alloc (.cells z 28)).alloc (.cells #[v0, v1, v2, .slice none 0 0, .slice none 0 0] 28)) v0 v1 v2 v3 v4 (.slice none 0 0) (.slice none 0 0) := by
  have e1 : (w.alloc (.cells #[v0, v1, v2, v3, v4] 28)).heap.size = w.heap.size + 1 := World.size_alloc _ _
  have e2 : ((w.alloc (.cells #[v0, v1, v2, v3, v4] 28)).alloc (.cells z 28)).heap.size = w.heap.size + 2 := by rw [World.size_alloc, e1]
  have h0 : Bx5 (w.alloc (.cells #[v0, v1, v2, v3, v4] 28)) w.heap.size v0 v1 v2 v3 v4 := ⟨by simp, by simp, by simp, by simp, by simp⟩
  have h1 := Row.new (w.alloc (.cells #[v0, v1, v2, v3, v4] 28)) z 28
  have h2 := Row.new ((w.alloc (.cells #[v0, v1, v2, v3, v4] 28)).alloc (.cells z 28)) #[v0, v1, v2, .slice none 0 0, .slice none 0 0] 28
  have h3 : Bx5 (((w.alloc (.cells #[v0, v1, v2, v3, v4] 28)).alloc (.cells z 28)).alloc (.cells #[v0, v1, v2, .slice none 0 0, .slice none 0 0] 28)) ((w.alloc (.cells #[v0, v1, v2, v3, v4] 28)).alloc (.cells z 28)).heap.size v0 v1 v2 (.slice none 0 0) (.slice none 0 0) := by
    generalize (w.alloc (.cells #[v0, v1, v2, v3, v4] 28)).alloc (.cells z 28) = W
    exact ⟨by simp, by simp, by simp, by simp, by simp⟩
  rw [e1, hz] at h1
  rw [e2] at h2 h3
  refine ⟨(h0.same (Below.heap_alloc _ _ _ (by omega))).same (Below.heap_alloc _ _ _ (by omega)), h1.onto (Below.heap_alloc _ _ _ (by omega)), h2, h3, ?_, ?_⟩
  · exact valloc_bel (valloc_bel (valloc_bel (Below.refl _ _) _) _) _
  · rw [World.size_alloc, e2]; exact Nat.le_refl _
set_option maxRecDepth 100000 in
set_option maxHeartbeats 8000000 in
theorem rcopy_any : ∀ (N : Nat) (t : VT), szT t ≤ N → szT t ≤ 1000000 → RCopyOk t := by
  intro N
  induction N with
  | zero => intro t ht; have := szT_pos t; omega
  | succ N ih =>
  intro T hN hMx x y w hT
  have HWF := hid hT.wfs
  have HIH := hid (fun (t : VT) (h1 : szT t ≤ N) (h2 : szT t ≤ 1000000) => ih t h1 h2)
  clear ih
  cases hT with
  | @mk k n s L K V _ _ a b f g p q hk hn hs hL hM hK cL cK cM rL rM =>
  obtain ⟨oL, capL, rfl, hL1, hL2, hL3⟩ := hL
  obtain ⟨oM, capM, rfl, hM1, hM2, hM3⟩ := hM
  unfold maxLen at hL2 hM2
  have hlL : L.length ≤ 1000000 := by have := len_szL L; simp only [szT] at hMx; omega
  have hlM : V.length ≤ 1000000 := by have := len_szL V; simp only [szT] at hMx; omega
  have HRL : Hid (∀ (i : Nat) (t : VT), L[i]? = some t → RCopyOk t) := fun i t h => HIH.out t (by have := szL_get L i t h; simp only [szT] at hN; omega) (by have := szL_get L i t h; simp only [szT] at hMx; omega)
  have HRM : Hid (∀ (i : Nat) (t : VT), V[i]? = some t → RCopyOk t) := fun i t h => HIH.out t (by have := szL_get V i t h; simp only [szT] at hN; omega) (by have := szL_get V i t h; simp only [szT] at hMx; omega)
  clear HIH hN hMx hk hn hs
  have HcL := hid cL; have HcK := hid cK; have HcM := hid cM; have HrL := hid rL; have HrM := hid rM
  clear cL cK cM rL rM
  obtain ⟨i0, hi, hz0, hz1, hz2⟩ := info_parts Tryz.info27
  obtain ⟨i1, hi', hz0', hz1', hz2'⟩ := info_parts Tryz.info34
  simp only [vv, VT.kd, VT.nm, VT.st]
  go_enter Tryz.func29, Tryz.ntmps29
  go_wp2_with fail
  go_loopw [4] (fun i wr => ∃ (j : Nat) (o : Option Addr) (m c : Nat) (E : List (VT × Value × Value)), i = .int .i64 j ∧ j ≤ L.length ∧ Hid (Copied wr (w.heap.size + 3) (.slice o m c) L j E) ∧ Hid (CSt w wr (.int .i64 k) (.int .i64 n) (.string s) (.slice oL L.length capL) (.slice oM V.length capM) (.slice o m c) (.slice none 0 0))) (fun i _ => L.length - (intOf i).toNat)
  case atStart => exact ⟨0, none, 0, 0, [], rfl, Nat.zero_le _, ⟨rfl, rfl, World.ownsRow_nil _ _ _ _, fun e he => by simp at he⟩, cst_start w _ _ _ _ _ _ rfl⟩
  case round =>
    obtain ⟨j, o, m, c, E, rfl, hj, HCO, HST⟩ := hrel
    have hbw := HST.out.2.2.2.2.1
    have hs3 := HST.out.2.2.2.2.2
    obtain ⟨b0, b1, b2, b3, b4⟩ := HST.out.1
    obtain ⟨g0, g1, g2, g3, g4⟩ := HST.out.2.2.2.1
    have zf := HST.out.2.2.1.frozen
    have g3' : wr.cell? ⟨w.heap.size + 1 + 1, 3, none⟩ = some (.slice o m c) := g3
    by_cases hlt : j < L.length
    · obtain ⟨t, ht⟩ : ∃ t, L[j]? = some t := ⟨L[j], List.getElem?_eq_getElem hlt⟩
      obtain rfl := hL3 (by omega)
      obtain ⟨d0, d1, d2, d3, d4⟩ := (HcL.out j t ht).onto hbw
      obtain ⟨o1, n1, c1, o2, n2, c2, hp, hq⟩ := hv_slices (HrL.out j t ht)
      have HR := hid ((HrL.out j t ht).onto hbw)
      rw [hp, hq] at HR
      rw [hp] at d3
      rw [hq] at d4
      have hab : a.block < w.heap.size := by have := World.block_lt_of_cell? w _ (HcL.out j t ht).1; rwa [addr_block] at this
      clear hp hq
      have HSTEP := hid (rcopy_step (HRL.out j t ht) HR.out)
      have HKEEP : Hid (∀ X, Below (w.heap.size + 3) wr X → Below (w.heap.size + 3) wr X ∧ X.cell? ⟨w.heap.size + 1 + 1, 3, none⟩ = some (.slice o m c) ∧ X.cell? ⟨w.heap.size, 3, none⟩ = some (.slice (some a) L.length capL) ∧ X.cell? (a.add (j * 5)) = some (.int .i64 t.kd) ∧ X.cell? ⟨(a.add (j * 5)).block, (a.add (j * 5)).off + 1, none⟩ = some (.int .i64 t.nm) ∧ X.cell? ⟨(a.add (j * 5)).block, (a.add (j * 5)).off + 2, none⟩ = some (.string t.st) ∧ X.cell? ⟨(a.add (j * 5)).block, (a.add (j * 5)).off + 3, none⟩ = some (.slice o1 n1 c1) ∧ X.cell? ⟨(a.add (j * 5)).block, (a.add (j * 5)).off + 4, none⟩ = some (.slice o2 n2 c2)) := by
        intro X hX
        have e : ∀ q : Addr, q.block < w.heap.size + 3 → X.cell? q = wr.cell? q := fun q hq => hX.cell hq
        have hb' : (a.add (j * 5)).block < w.heap.size + 3 := by rw [addr_block]; omega
        exact ⟨hX, (e _ (by show w.heap.size + 1 + 1 < _; omega)).trans g3', (e _ (by show w.heap.size < _; omega)).trans b3, (e _ hb').trans d0, (e ⟨_, _, none⟩ hb').trans d1, (e ⟨_, _, none⟩ hb').trans d2, (e ⟨_, _, none⟩ hb').trans d3, (e ⟨_, _, none⟩ hb').trans d4⟩
      have hOWN := hid HCO.out.2.2.1
      go_wp2_with fail
      refine wp_region_ends2 (S := (fun X => Below (w.heap.size + 3) wr X ∧ X.cell? ⟨w.heap.size + 1 + 1, 3, none⟩ = some (.slice o m c) ∧ X.cell? ⟨w.heap.size, 3, none⟩ = some (.slice (some a) L.length capL) ∧ X.cell? (a.add (j * 5)) = some (.int .i64 t.kd) ∧ X.cell? ⟨(a.add (j * 5)).block, (a.add (j * 5)).off + 1, none⟩ = some (.int .i64 t.nm) ∧ X.cell? ⟨(a.add (j * 5)).block, (a.add (j * 5)).off + 2, none⟩ = some (.string t.st) ∧ X.cell? ⟨(a.add (j * 5)).block, (a.add (j * 5)).off + 3, none⟩ = some (.slice o1 n1 c1) ∧ X.cell? ⟨(a.add (j * 5)).block, (a.add (j * 5)).off + 4, none⟩ = some (.slice o2 n2 c2))) (by simp) (by kernel_rfl) (by kernel_rfl) (by kernel_rfl) (by kernel_rfl) (by kernel_rfl) (by kernel_rfl) ?_
      simp only [List.dropLast, List.getLast_cons_cons, List.getLast_singleton, List.length_cons, List.length_nil]
      have hS0 := HKEEP.out wr.drew (Below.refl _ _).drew
      refine take_h (i := 0) (v := ?_) rfl (by kernel_rfl) (by kernel_rfl) (by kernel_rfl) (fun _ _ _ h => h) (by rfl) ?_ hS0 ?_
      rotate_left
      · (intro X hX; go_simp; try with_reducible rfl)
      simp only [Act.put, List.setIfInBounds_toArray, List.set_cons_zero, List.set_cons_succ]
      refine take_h (i := 1) (v := ?_) rfl (by kernel_rfl) (by kernel_rfl) (by kernel_rfl) (fun _ _ _ h => h) (by rfl) ?_ hS0 ?_
      rotate_left
      · (intro X hX; go_simp; try with_reducible rfl)
      simp only [Act.put, List.setIfInBounds_toArray, List.set_cons_zero, List.set_cons_succ]
      refine take_h (i := 2) (v := ?_) rfl (by kernel_rfl) (by kernel_rfl) (by kernel_rfl) (fun _ _ _ h => h) (by rfl) ?_ hS0 ?_
      rotate_left
      · (intro X hX; go_simp; try with_reducible rfl)
      simp only [Act.put, List.setIfInBounds_toArray, List.set_cons_zero, List.set_cons_succ]
      refine take_h (i := 3) (v := ?_) rfl (by kernel_rfl) (by kernel_rfl) (by kernel_rfl) (fun _ _ _ h => h) (by rfl) ?_ hS0 ?_
      rotate_left
      · (intro X hX; go_simp; try with_reducible rfl)
      simp only [Act.put, List.setIfInBounds_toArray, List.set_cons_zero, List.set_cons_succ]
      refine take_h (i := 4) (v := ?_) rfl (by kernel_rfl) (by kernel_rfl) (by kernel_rfl) (fun _ _ _ h => h) (by rfl) ?_ hS0 ?_
      rotate_left
      · (intro X hX; go_simp; try with_reducible rfl)
      simp only [Act.put, List.setIfInBounds_toArray, List.set_cons_zero, List.set_cons_succ]
      refine take_h (i := 5) (v := ?_) rfl (by kernel_rfl) (by kernel_rfl) (by kernel_rfl) (fun _ _ _ h => h) (by rfl) ?_ hS0 ?_
      rotate_left
      · (intro X hX; go_simp; try with_reducible rfl)
      simp only [Act.put, List.setIfInBounds_toArray, List.set_cons_zero, List.set_cons_succ]
      refine take_h (i := 6) (v := ?_) rfl (by kernel_rfl) (by kernel_rfl) (by kernel_rfl) (fun _ _ _ h => h) (by rfl) ?_ hS0 ?_
      rotate_left
      · (intro X hX; go_simp; try with_reducible rfl)
      simp only [Act.put, List.setIfInBounds_toArray, List.set_cons_zero, List.set_cons_succ]
      refine step_h (i := 7) rfl (by kernel_rfl) ?_
      intro KK hKK
      go_simp
      go_wp2_with (go_at_call 29; go_must (refine (HSTEP.out _ (Below.refl _ _).drew).mono ?_; rintro e w1 ⟨p1, m1, k1, p2, m2, k2, rfl, hx1, hb1⟩))
      have hs1 := hb1.size
      refine hKK.out _ _ (HKEEP.out _ (hb1.mono hs3)) (fun hS1 => ?_)
      clear hKK KK hS0
      refine step_h (i := 8) rfl (by kernel_rfl) ?_
      intro KK hKK
      go_simp
      refine hKK.out _ _ (HKEEP.out _ ((hb1.mono hs3).alloc (by omega) _)) (fun hS2 => ?_)
      clear hKK KK hS1
      refine step_h (i := 9) rfl (by kernel_rfl) ?_
      intro KK hKK
      refine step_append_lies _ (by rfl) _ _ _ (by rfl) (w.heap.size + 3) 28 i0 (.agg #[.int .i64 0, .int .i64 0, .string ⟨#[]⟩, .slice none 0 0, .slice none 0 0]) 5 80 Tryz.underlying25 hi hz0 hz1 hz2 rfl (by decide) _ j _ (by rfl) ((ownsRow_below hOWN.out hb1).alloc _) ⟨w1.heap.size, 0, none⟩ 1 1 (vc (t, .slice p1 m1 k1, .slice p2 m2 k2)) (by rfl) rfl (new_cells w1 _ 28) (vc_one _ _ _ _ _ _ _) (by decide) (by unfold maxLen; omega) (by omega) (by simp; omega) (w1.heap.size + 1) (by simp) ?_
      intro g' cap' w2 hown2 hgr2 hat2 hlt2
      have kc3 : Below (w.heap.size + 3) wr w2 := ((hb1.mono hs3).alloc (by omega) _).grown hgr2 (by simp; omega) (fun q hq => by have := hOWN.out.lt q hq; omega)
      refine hKK.out _ _ (HKEEP.out _ kc3) (fun hS3 => ?_)
      clear hKK KK hS2
      simp only [Act.put, List.setIfInBounds_toArray, List.set_cons_zero, List.set_cons_succ]
      refine take_h (i := 10) (v := ?_) rfl (by kernel_rfl) (by kernel_rfl) (by kernel_rfl) (fun _ _ _ h => h) (by rfl) ?_ hS3 ?_
      rotate_left
      · (intro X hX; go_simp; try with_reducible rfl)
      simp only [Act.put, List.setIfInBounds_toArray, List.set_cons_zero, List.set_cons_succ]
      have y5 : w2.cell? ⟨w.heap.size + 1 + 1, 3, none⟩ = some (.slice o m c) := (kc3.cell (show w.heap.size + 1 + 1 < w.heap.size + 3 by omega)).trans g3
      have z5 : w2.frozen? ⟨w.heap.size + 1 + 1, 3, none⟩ = false := (kc3.frozen (show w.heap.size + 1 + 1 < w.heap.size + 3 by omega)).trans (zf 3)
      clear hS3
      refine wpAnyH_done (by kernel_rfl) ?_ _
      change Oper.wp _ _ _ _ _ _
      go_simp
      go_wp2_with fail
      go_roundw
      case rel =>
        refine ⟨j + 1, some ⟨g', 0, none⟩, j + 1, cap', E ++ [(t, .slice p1 m1 k1, .slice p2 m2 k2)], val_int (by omega), hlt, ?_, ?_⟩
        · exact (copied_next HCO.out ht hs3 hb1 hx1 (valloc_bel (Below.refl _ _) _) hgr2 (by simpa using hat2) hlt2 hown2).set _ _ _ (by omega)
        · exact (HST.out.onto kc3).set3 _
      case measure => simp [intOf]; omega
    · have hjL : j = L.length := by omega
      subst hjL
      have HLS := hid HCO.out.ls
      have HST1 := HST
      clear HCO hbw b0 b1 b2 b4 g0 g1 g2 g3 g4 zf g3'
      go_wp2_with fail
      clear b3
      go_loopw [5] (fun i wx => ∃ (j : Nat) (o' : Option Addr) (m' c' : Nat) (E' : List (ByteArray × VT × Value × Value)), i = .int .i64 j ∧ j ≤ V.length ∧ Hid (CopiedM wx (w.heap.size + 3) (.slice o' m' c') K V j E') ∧ Hid (LS wx (fun k => w.heap.size + 3 ≤ k ∧ k < wx.heap.size ∧ ¬ (Value.slice o' m' c').ownBlock = some k) L (.slice o m c)) ∧ Hid (CSt w wx (.int .i64 k) (.int .i64 n) (.string s) (.slice oL L.length capL) (.slice oM V.length capM) (.slice o m c) (.slice o' m' c'))) (fun i _ => V.length - (intOf i).toNat)
      case atStart => exact ⟨0, none, 0, 0, [], rfl, Nat.zero_le _, ⟨rfl, rfl, rfl, World.ownsRow_nil _ _ _ _, fun e he => by simp at he⟩, HLS.out.onto (fun _ _ => rfl) (fun k hk => ⟨hk.1, hk.2, fun h => by simp [Value.ownBlock] at h⟩), HST1⟩
      case round =>
        clear HLS HST1 HST hs3
        obtain ⟨j, o', m', c', E', rfl, hj, HCO, HLS, HST⟩ := hrel
        have hbw := HST.out.2.2.2.2.1
        have hs3 := HST.out.2.2.2.2.2
        obtain ⟨b0, b1, b2, b3, b4⟩ := HST.out.1
        obtain ⟨g0, g1, g2, g3, g4⟩ := HST.out.2.2.2.1
        have zf := HST.out.2.2.1.frozen
        have g4' : wr.cell? ⟨w.heap.size + 1 + 1, 4, none⟩ = some (.slice o' m' c') := g4
        by_cases hlt : j < V.length
        · obtain ⟨t, ht⟩ : ∃ t, V[j]? = some t := ⟨V[j], List.getElem?_eq_getElem hlt⟩
          obtain ⟨ck, hck⟩ : ∃ c, K[j]? = some c := ⟨K[j], List.getElem?_eq_getElem (by omega)⟩
          obtain rfl := hM3 (by omega)
          have hnode := (HcM.out j t ht).onto hbw
          simp only [Node, nx] at hnode
          obtain ⟨d0, d1, d2, d3, d4⟩ := hnode
          have k0 := keepCell hbw (HcK.out j ck hck).1
          have hcs := (HcK.out j ck hck).2
          obtain ⟨o1, n1, c1, o2, n2, c2, hp, hq⟩ := hv_slices (HrM.out j t ht)
          have HR := hid ((HrM.out j t ht).onto hbw)
          rw [hp, hq] at HR
          rw [hp] at d3
          rw [hq] at d4
          have hab : b.block < w.heap.size := by have := World.block_lt_of_cell? w _ (HcK.out j ck hck).1; rwa [addr_block] at this
          clear hp hq
          have HSTEP := hid (rcopy_step (HRM.out j t ht) HR.out)
          have HKEEP : Hid (∀ X, Below (w.heap.size + 3) wr X → X.cell? ⟨w.heap.size + 1 + 1, 4, none⟩ = some (.slice o' m' c') ∧ X.cell? ⟨w.heap.size, 4, none⟩ = some (.slice (some b) V.length capM) ∧ X.cell? (b.add (j * 6)) = some (.string ck) ∧ X.cell? ⟨(b.add (j * 6)).block, (b.add (j * 6)).off + 1, none⟩ = some (.int .i64 t.kd) ∧ X.cell? ⟨(b.add (j * 6)).block, (b.add (j * 6)).off + 1 + 1, none⟩ = some (.int .i64 t.nm) ∧ X.cell? ⟨(b.add (j * 6)).block, (b.add (j * 6)).off + 1 + 2, none⟩ = some (.string t.st) ∧ X.cell? ⟨(b.add (j * 6)).block, (b.add (j * 6)).off + 1 + 3, none⟩ = some (.slice o1 n1 c1) ∧ X.cell? ⟨(b.add (j * 6)).block, (b.add (j * 6)).off + 1 + 4, none⟩ = some (.slice o2 n2 c2)) := by
            intro X hX
            have e : ∀ q : Addr, q.block < w.heap.size + 3 → X.cell? q = wr.cell? q := fun q hq => hX.cell hq
            have hb' : (b.add (j * 6)).block < w.heap.size + 3 := by rw [addr_block]; omega
            exact ⟨(e _ (by show w.heap.size + 1 + 1 < _; omega)).trans g4', (e _ (by show w.heap.size < _; omega)).trans b4, (e _ hb').trans k0, (e ⟨_, _, none⟩ hb').trans d0, (e ⟨_, _, none⟩ hb').trans d1, (e ⟨_, _, none⟩ hb').trans d2, (e ⟨_, _, none⟩ hb').trans d3, (e ⟨_, _, none⟩ hb').trans d4⟩
          have hOWN := hid HCO.out.2.2.2.1
          go_wp2_with fail
          refine wp_region_ends2 (S := fun X => X.cell? ⟨w.heap.size + 1 + 1, 4, none⟩ = some (.slice o' m' c') ∧ X.cell? ⟨w.heap.size, 4, none⟩ = some (.slice (some b) V.length capM) ∧ X.cell? (b.add (j * 6)) = some (.string ck) ∧ X.cell? ⟨(b.add (j * 6)).block, (b.add (j * 6)).off + 1, none⟩ = some (.int .i64 t.kd) ∧ X.cell? ⟨(b.add (j * 6)).block, (b.add (j * 6)).off + 1 + 1, none⟩ = some (.int .i64 t.nm) ∧ X.cell? ⟨(b.add (j * 6)).block, (b.add (j * 6)).off + 1 + 2, none⟩ = some (.string t.st) ∧ X.cell? ⟨(b.add (j * 6)).block, (b.add (j * 6)).off + 1 + 3, none⟩ = some (.slice o1 n1 c1) ∧ X.cell? ⟨(b.add (j * 6)).block, (b.add (j * 6)).off + 1 + 4, none⟩ = some (.slice o2 n2 c2)) (by simp) (by kernel_rfl) (by kernel_rfl) (by kernel_rfl) (by kernel_rfl) (by kernel_rfl) (by kernel_rfl) ?_
          simp only [List.dropLast, List.getLast_cons_cons, List.getLast_singleton, List.length_cons, List.length_nil]
          have hS0 := HKEEP.out wr.drew (Below.refl _ _).drew
          refine take_h (i := 0) (v := ?_) rfl (by kernel_rfl) (by kernel_rfl) (by kernel_rfl) (fun _ _ _ h => h) (by rfl) ?_ hS0 ?_
          rotate_left
          · (intro X hX; go_simp; try with_reducible rfl)
          simp only [Act.put, List.setIfInBounds_toArray, List.set_cons_zero, List.set_cons_succ]
          refine take_h (i := 1) (v := ?_) rfl (by kernel_rfl) (by kernel_rfl) (by kernel_rfl) (fun _ _ _ h => h) (by rfl) ?_ hS0 ?_
          rotate_left
          · (intro X hX; go_simp; try with_reducible rfl)
          simp only [Act.put, List.setIfInBounds_toArray, List.set_cons_zero, List.set_cons_succ]
          refine take_h (i := 2) (v := ?_) rfl (by kernel_rfl) (by kernel_rfl) (by kernel_rfl) (fun _ _ _ h => h) (by rfl) ?_ hS0 ?_
          rotate_left
          · (intro X hX; go_simp; try with_reducible rfl)
          simp only [Act.put, List.setIfInBounds_toArray, List.set_cons_zero, List.set_cons_succ]
          refine take_h (i := 3) (v := ?_) rfl (by kernel_rfl) (by kernel_rfl) (by kernel_rfl) (fun _ _ _ h => h) (by rfl) ?_ hS0 ?_
          rotate_left
          · (intro X hX; go_simp; try with_reducible rfl)
          simp only [Act.put, List.setIfInBounds_toArray, List.set_cons_zero, List.set_cons_succ]
          refine take_h (i := 4) (v := ?_) rfl (by kernel_rfl) (by kernel_rfl) (by kernel_rfl) (fun _ _ _ h => h) (by rfl) ?_ hS0 ?_
          rotate_left
          · (intro X hX; go_simp; try with_reducible rfl)
          simp only [Act.put, List.setIfInBounds_toArray, List.set_cons_zero, List.set_cons_succ]
          refine take_h (i := 5) (v := ?_) rfl (by kernel_rfl) (by kernel_rfl) (by kernel_rfl) (fun _ _ _ h => h) (by rfl) ?_ hS0 ?_
          rotate_left
          · (intro X hX; go_simp; try with_reducible rfl)
          simp only [Act.put, List.setIfInBounds_toArray, List.set_cons_zero, List.set_cons_succ]
          refine take_h (i := 6) (v := ?_) rfl (by kernel_rfl) (by kernel_rfl) (by kernel_rfl) (fun _ _ _ h => h) (by rfl) ?_ hS0 ?_
          rotate_left
          · (intro X hX; go_simp; try with_reducible rfl)
          simp only [Act.put, List.setIfInBounds_toArray, List.set_cons_zero, List.set_cons_succ]
          refine take_h (i := 7) (v := ?_) rfl (by kernel_rfl) (by kernel_rfl) (by kernel_rfl) (fun _ _ _ h => h) (by rfl) ?_ hS0 ?_
          rotate_left
          · (intro X hX; go_simp; try with_reducible rfl)
          simp only [Act.put, List.setIfInBounds_toArray, List.set_cons_zero, List.set_cons_succ]
          refine take_h (i := 8) (v := ?_) rfl (by kernel_rfl) (by kernel_rfl) (by kernel_rfl) (fun _ _ _ h => h) (by rfl) ?_ hS0 ?_
          rotate_left
          · (intro X hX; go_simp; try with_reducible rfl)
          simp only [Act.put, List.setIfInBounds_toArray, List.set_cons_zero, List.set_cons_succ]
          refine take_h (i := 9) (v := ?_) rfl (by kernel_rfl) (by kernel_rfl) (by kernel_rfl) (fun _ _ _ h => h) (by rfl) ?_ hS0 ?_
          rotate_left
          · (intro X hX; go_simp; try with_reducible rfl)
          simp only [Act.put, List.setIfInBounds_toArray, List.set_cons_zero, List.set_cons_succ]
          refine take_h (i := 10) (v := ?_) rfl (by kernel_rfl) (by kernel_rfl) (by kernel_rfl) (fun _ _ _ h => h) (by rfl) ?_ hS0 ?_
          rotate_left
          · (intro X hX; go_simp; try with_reducible rfl)
          simp only [Act.put, List.setIfInBounds_toArray, List.set_cons_zero, List.set_cons_succ]
          refine take_h (i := 11) (v := ?_) rfl (by kernel_rfl) (by kernel_rfl) (by kernel_rfl) (fun _ _ _ h => h) (by rfl) ?_ hS0 ?_
          rotate_left
          · (intro X hX; go_simp; try with_reducible rfl)
          simp only [Act.put, List.setIfInBounds_toArray, List.set_cons_zero, List.set_cons_succ]
          refine take_h (i := 12) (v := ?_) rfl (by kernel_rfl) (by kernel_rfl) (by kernel_rfl) (fun _ _ _ h => h) (by rfl) ?_ hS0 ?_
          rotate_left
          · (intro X hX; go_simp; try with_reducible rfl)
          simp only [Act.put, List.setIfInBounds_toArray, List.set_cons_zero, List.set_cons_succ]
          refine take_h (i := 13) (v := ?_) rfl (by kernel_rfl) (by kernel_rfl) (by kernel_rfl) (fun _ _ _ h => h) (by rfl) ?_ hS0 ?_
          rotate_left
          · (intro X hX; go_simp; try with_reducible rfl)
          simp only [Act.put, List.setIfInBounds_toArray, List.set_cons_zero, List.set_cons_succ]
          refine step_h (i := 14) rfl (by kernel_rfl) ?_
          intro KK hKK
          go_simp
          go_wp2_with (go_at_call 29; go_must (refine (HSTEP.out _ (Below.refl _ _).drew).mono ?_; rintro e w1 ⟨p1, m1, k1, p2, m2, k2, rfl, hx1, hb1⟩))
          have hs1 := hb1.size
          refine hKK.out _ _ (HKEEP.out _ (hb1.mono hs3)) (fun hS1 => ?_)
          clear hKK KK hS0
          refine take_h (i := 15) (v := ?_) rfl (by kernel_rfl) (by kernel_rfl) (by kernel_rfl) (fun _ _ _ h => h) (by rfl) ?_ hS1 ?_
          rotate_left
          · (intro X hX; go_simp; try with_reducible rfl)
          simp only [Act.put, List.setIfInBounds_toArray, List.set_cons_zero, List.set_cons_succ]
          refine step_h (i := 16) rfl (by kernel_rfl) ?_
          intro KK hKK
          go_simp
          refine hKK.out _ _ (HKEEP.out _ ((hb1.mono hs3).alloc (by omega) _)) (fun hS2 => ?_)
          clear hKK KK hS1
          refine step_h (i := 17) rfl (by kernel_rfl) ?_
          intro KK hKK
          refine step_append_lies _ (by rfl) _ _ _ (by rfl) (w.heap.size + 3) 42 i1 (.agg #[.string ⟨#[]⟩, .int .i64 0, .int .i64 0, .string ⟨#[]⟩, .slice none 0 0, .slice none 0 0]) 6 96 Tryz.underlying26 hi' hz0' hz1' hz2' rfl (by decide) _ j _ (by rfl) ((ownsRow_below hOWN.out hb1).alloc _) ⟨w1.heap.size, 0, none⟩ 1 1 (pc (ck, t, .slice p1 m1 k1, .slice p2 m2 k2)) (by rfl) rfl (new_cells w1 _ 42) (pc_one' _ _ _ _ _ _ _ _) (by decide) (by unfold maxLen; omega) (by omega) (by simp; omega) (w1.heap.size + 1) (by simp) ?_
          intro g' cap' w2 hown2 hgr2 hat2 hlt2
          have kc3 : Below (w.heap.size + 3) wr w2 := ((hb1.mono hs3).alloc (by omega) _).grown hgr2 (by simp; omega) (fun q hq => by have := hOWN.out.lt q hq; omega)
          refine hKK.out _ _ (HKEEP.out _ kc3) (fun hS3 => ?_)
          clear hKK KK hS2
          simp only [Act.put, List.setIfInBounds_toArray, List.set_cons_zero, List.set_cons_succ]
          refine take_h (i := 18) (v := ?_) rfl (by kernel_rfl) (by kernel_rfl) (by kernel_rfl) (fun _ _ _ h => h) (by rfl) ?_ hS3 ?_
          rotate_left
          · (intro X hX; go_simp; try with_reducible rfl)
          simp only [Act.put, List.setIfInBounds_toArray, List.set_cons_zero, List.set_cons_succ]
          have y5 : w2.cell? ⟨w.heap.size + 1 + 1, 4, none⟩ = some (.slice o' m' c') := (kc3.cell (show w.heap.size + 1 + 1 < w.heap.size + 3 by omega)).trans g4
          have z5 : w2.frozen? ⟨w.heap.size + 1 + 1, 4, none⟩ = false := (kc3.frozen (show w.heap.size + 1 + 1 < w.heap.size + 3 by omega)).trans (zf 4)
          clear hS3
          refine wpAnyH_done (by kernel_rfl) ?_ _
          change Oper.wp _ _ _ _ _ _
          go_simp
          go_wp2_with fail
          go_roundw
          case rel =>
            refine ⟨j + 1, some ⟨g', 0, none⟩, j + 1, cap', E' ++ [(ck, t, .slice p1 m1 k1, .slice p2 m2 k2)], val_int (by omega), hlt, ?_, ?_, ?_⟩
            · exact (copiedm_next HCO.out hck hcs ht hs3 hb1 hx1 (valloc_bel (Below.refl _ _) _) hgr2 (by simpa using hat2) hlt2 hown2).set _ _ _ (by omega)
            · have s2 := hgr2.size
              simp only [World.size_alloc] at s2
              refine HLS.out.onto (fun q hq => ?_) (fun q hq => ⟨hq.1, by simp; omega, fun h => ?_⟩)
              · rw [Below.heap_setCell _ _ _ _ (by show q ≠ w.heap.size + 1 + 1; omega), hgr2.block q (by simp; omega) (fun h => hq.2.2 h.symm), Below.heap_alloc _ _ _ (by omega), hb1.block q hq.2.1]
              · have hgq : g' = q := by simpa [Value.ownBlock] using h
                subst hgq
                rcases hat2 with h2 | h2
                · exact hq.2.2 h2
                · omega
            · exact (HST.out.onto kc3).set4 _
          case measure => simp [intOf]; omega
        · have hjV : j = V.length := by omega
          subst hjV
          have HMS := hid (HCO.out.ms hK)
          have hr1 := HST.out.2.1
          obtain ⟨u0, e0⟩ := hr1.cell (o := 0) (by decide)
          obtain ⟨u1, e1⟩ := hr1.cell (o := 1) (by decide)
          obtain ⟨u2, e2⟩ := hr1.cell (o := 2) (by decide)
          obtain ⟨u3, e3⟩ := hr1.cell (o := 3) (by decide)
          obtain ⟨u4, e4⟩ := hr1.cell (o := 4) (by decide)
          have z0 := hr1.frozen
          have g0' : wr.cell? ⟨w.heap.size + 1 + 1, 0, none⟩ = some (.int .i64 k) := g0
          have g1' : wr.cell? ⟨w.heap.size + 1 + 1, 1, none⟩ = some (.int .i64 n) := g1
          have g2' : wr.cell? ⟨w.heap.size + 1 + 1, 2, none⟩ = some (.string s) := g2
          have g3' : wr.cell? ⟨w.heap.size + 1 + 1, 3, none⟩ = some (.slice o m c) := g3
          go_wp2_with fail
          refine bodyPost_ret (v := .agg #[.int .i64 k, .int .i64 n, .string s, .slice o m c, .slice o' m' c']) (by simp [results, Tryz.results29, go_sem, e0, e1, e2, e3, e4]) rfl ⟨.slice o m c, .slice o' m' c', rfl, ?_, ?_⟩
          · change HS (put5 wr (w.heap.size + 1) 0 (.int .i64 k) (.int .i64 n) (.string s) (.slice o m c) (.slice o' m' c')) (fun q => w.heap.size ≤ q ∧ q < (put5 wr (w.heap.size + 1) 0 (.int .i64 k) (.int .i64 n) (.string s) (.slice o m c) (.slice o' m' c')).heap.size) _ _ _
            rw [put5_size]
            refine (hs_of (T := .mk k n s L K V) HWF.out (HLS.out.onto (fun _ _ => rfl) (fun q hq => ⟨hq.1, hq.2.1⟩)) HMS.out).onto (fun q hq => put5_heap _ _ _ _ _ _ _ _ _ (by omega)) (fun q hq => ⟨by omega, hq.2⟩)
          · exact vset_bel (vset_bel (vset_bel (vset_bel (vset_bel hbw (by simp)) (by simp)) (by simp)) (by simp)) (by simp)
end Go.Proofs.YtgfkhnpbkdddbaaGreatDoor
