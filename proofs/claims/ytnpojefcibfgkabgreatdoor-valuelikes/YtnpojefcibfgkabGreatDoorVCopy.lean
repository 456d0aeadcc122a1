/- value.Copy, walked: another tree, the same, in blocks of its own. -/
import Derived.Test.YtnpojefcibfgkabGreatDoorVCopyP
namespace Go.Proofs.YtnpojefcibfgkabGreatDoor
open Go.RowKit

theorem two_boxes {w w1 : World} {c d : Array Value} {t : TypeId} (h : Below ((w.alloc (.cells c t)).alloc (.cells d t)).heap.size ((w.alloc (.cells c t)).alloc (.cells d t)) w1) : Row w1 w.heap.size t c.size ∧ Row w1 (w.heap.size + 1) t d.size ∧ ∀ i u, c[i]? = some u → w1.cell? ⟨w.heap.size, i, none⟩ = some u := by
  have e : (w.alloc (.cells c t)).heap.size = w.heap.size + 1 := by simp
  refine ⟨((Row.new w c t).onto (Below.heap_alloc _ _ _ (by simp))).onto (h.block _ (by simp; omega)), ?_, fun i u hu => ?_⟩
  · have := Row.new (w.alloc (.cells c t)) d t
    rw [e] at this
    exact this.onto (h.block _ (by simp))
  · refine keepCell h ?_
    rw [World.cell?_alloc_lt _ _ _ (by simp)]
    rw [World.cell?_alloc_new]; exact hu
theorem node_set3 {w : World} {b m : Nat} {ty : TypeId} {T : VT} {x y : Value} (h : Row w b ty m) (hm : 5 ≤ m) (hn : Node w ⟨b, 0, none⟩ T x y) (x' : Value) : Node (w.setCell ⟨b, 3, none⟩ x') ⟨b, 0, none⟩ T x' y := by
  obtain ⟨h0, h1, h2, h3, h4⟩ := hn
  exact ⟨(set_other _ _ _ _ _ _ (Or.inr (by simp))).trans h0, (set_other _ _ _ _ _ _ (Or.inr (by simp))).trans h1, (set_other _ _ _ _ _ _ (Or.inr (by simp))).trans h2, set_same h (by omega) _, (set_other _ _ _ _ _ _ (Or.inr (by simp))).trans h4⟩
theorem hf_of' {w : World} {lo m hi : Nat} {T : VT} {x y : Value} (hw : (Lit.int .i64 T.kd).wf = true ∧ (Lit.int .i64 T.nm).wf = true ∧ T.st.size ≤ maxLen) (h1 : lo ≤ m) (h2 : m ≤ hi) (hL : LF w lo m T.ls x) (hM : MF w m hi T.ks T.vs y) : HF w lo hi T x y := by
  cases T with
  | mk k n s L K V => exact hf_of hw.1 hw.2.1 hw.2.2 h1 h2 hL hM
set_option maxRecDepth 100000 in
set_option maxHeartbeats 1000000 in
theorem vcopy_any : ∀ (N : Nat) (T : VT), szT T ≤ N → szT T ≤ 1000000 → CopyOk T := by
  intro N
  induction N with
  | zero => intro T h; have := szT_pos T; omega
  | succ N ih =>
  intro T hN hm x y w hT
  have hCL : ∀ (i : Nat) (t : VT), T.ls[i]? = some t → CopyOk t := fun i t h => ih t (by have := szT_ls T i t h; omega) (by have := szT_ls T i t h; omega)
  have hCM : ∀ (i : Nat) (t : VT), T.vs[i]? = some t → CopyOk t := fun i t h => ih t (by have := szT_vs T i t h; omega) (by have := szT_vs T i t h; omega)
  have hzl : T.ls.length ≤ 1000000 := by have := len_sz T; omega
  have hzv : T.vs.length ≤ 1000000 := by have := len_sz T; omega
  have HLL : Hid (∀ X : World, Below w.heap.size w X → Calls Tryz.prog 36 #[x] X fun e w' => ∃ X', e = .returned X' ∧ LF w' X.heap.size w'.heap.size T.ls X' ∧ Below X.heap.size X w') :=
    fun X hX => copylist_of T.ls x X hCL (hT.inL.onto hX) hzl
  have HMM : Hid (∀ X : World, Below w.heap.size w X → Calls Tryz.prog 33 #[y] X fun e w' => ∃ X', e = .returned X' ∧ MF w' X.heap.size w'.heap.size T.ks T.vs X' ∧ Below X.heap.size X w') :=
    fun X hX => copypairs_of T.ks T.vs y X hCM (hT.inM.onto hX) hzv
  have HW := hid hT.wfs
  obtain ⟨oL, nL, cL, oM, nM, cM, rfl, rfl⟩ := hv_slices hT
  have HT := hid hT
  clear hT hCL hCM ih
  simp only [vv]
  go_enter Tryz.func20, Tryz.ntmps20
  go_wp2_with fail
  go_at_call 36
  refine (HLL.out _ ?_).mono ?_
  · repeat (first | exact Below.refl _ _ | apply valloc_bel | (refine vset_bel ?_ (by simp)))
  rintro e w1 ⟨X, rfl, HX, hb1⟩
  obtain ⟨pX, nX, cX, rfl⟩ := HX.slice
  have kc := (vkeeps hb1).1
  have kf := (vkeeps hb1).2
  have HB1 := hid hb1
  have HX1 := hid HX
  clear hb1 HX
  have hs1 : w.heap.size + 2 ≤ w1.heap.size := by have := HB1.out.size; simpa using this
  have hs2 : w.heap.size < w1.heap.size := by omega
  have hs3 : w.heap.size + 1 < w1.heap.size := by omega
  go_wp2_with fail
  go_at_call 33
  have HW1 := hid (vset_bel (ad := ⟨w.heap.size, 3, none⟩) (v := .slice pX nX cX) (vonto (valloc_bel (valloc_bel (Below.refl w.heap.size w) _) _) HB1.out) (Nat.le_refl _))
  refine (HMM.out _ HW1.out).mono ?_
  rintro e w2 ⟨Y, rfl, HY, hb2⟩
  obtain ⟨pY, nY, cY, rfl⟩ := HY.slice
  have HB2 := hid hb2
  have HY1 := hid HY
  clear hb2 HY kc kf
  have hs4 : w1.heap.size ≤ w2.heap.size := by have := HB2.out.size; simpa using this
  obtain ⟨r0, r1, rc⟩ := two_boxes HB1.out
  have hn : Node w1 ⟨w.heap.size, 0, none⟩ T (.slice oL nL cL) (.slice oM nM cM) := ⟨rc 0 _ rfl, rc 1 _ rfl, rc 2 _ rfl, rc 3 _ rfl, rc 4 _ rfl⟩
  have hn2 := (node_set3 r0 (Nat.le_refl _) hn (.slice pX nX cX)).onto HB2.out
  have R0 := hid ((r0.set ⟨w.heap.size, 3, none⟩ (.slice pX nX cX)).onto (HB2.out.block _ (by simpa using hs2)))
  have R1 := hid ((r1.set ⟨w.heap.size, 3, none⟩ (.slice pX nX cX)).onto (HB2.out.block _ (by simpa using hs3)))
  simp only [Node, Nat.zero_add] at hn2
  obtain ⟨q0, q1, q2, q3, q4⟩ := hn2
  clear r0 r1 rc hn
  obtain ⟨u0, e0⟩ := R1.out.cell (o := 0) (by decide)
  obtain ⟨u1, e1⟩ := R1.out.cell (o := 1) (by decide)
  obtain ⟨u2, e2⟩ := R1.out.cell (o := 2) (by decide)
  obtain ⟨u3, e3⟩ := R1.out.cell (o := 3) (by decide)
  obtain ⟨u4, e4⟩ := R1.out.cell (o := 4) (by decide)
  have z0 := R0.out.frozen
  have z1 := R1.out.frozen
  go_wp2_with fail
  have HE : ∀ k, w.heap.size + 2 ≤ k → (put5 (w2.setCell ⟨w.heap.size, 4, none⟩ (.slice pY nY cY)) (w.heap.size + 1) 0 (.int .i64 T.kd) (.int .i64 T.nm) (.string T.st) (.slice pX nX cX) (.slice pY nY cY)).heap[k]? = w2.heap[k]? := by
    intro k hk
    rw [put5_heap _ _ _ _ _ _ _ _ _ (by omega), Below.heap_setCell _ _ _ _ (show k ≠ w.heap.size by omega)]
  have hsz : (put5 (w2.setCell ⟨w.heap.size, 4, none⟩ (.slice pY nY cY)) (w.heap.size + 1) 0 (.int .i64 T.kd) (.int .i64 T.nm) (.string T.st) (.slice pX nX cX) (.slice pY nY cY)).heap.size = w2.heap.size := by rw [put5_size]; simp
  refine bodyPost_ret (v := vv T (.slice pX nX cX) (.slice pY nY cY)) (by simp [results, Tryz.results20, go_sem, vv, e0, e1, e2, e3, e4]) rfl ⟨_, _, rfl, ?_, ?_⟩
  · change HF (put5 (w2.setCell ⟨w.heap.size, 4, none⟩ (.slice pY nY cY)) (w.heap.size + 1) 0 (.int .i64 T.kd) (.int .i64 T.nm) (.string T.st) (.slice pX nX cX) (.slice pY nY cY)) w.heap.size (put5 (w2.setCell ⟨w.heap.size, 4, none⟩ (.slice pY nY cY)) (w.heap.size + 1) 0 (.int .i64 T.kd) (.int .i64 T.nm) (.string T.st) (.slice pX nX cX) (.slice pY nY cY)).heap.size T _ _
    rw [hsz]
    have hLF := HX1.out
    have hMF := HY1.out
    simp only [World.size_alloc, World.size_setCell] at hLF hMF
    refine hf_of' (m := w1.heap.size) HW.out (by omega) hs4 ?_ ?_
    · refine (hLF.onto (fun k g1 g2 => ?_)).wide (by omega) (Nat.le_refl _)
      rw [HE k (by omega), HB2.out.block k (by simpa using g2), Below.heap_setCell _ _ _ _ (show k ≠ w.heap.size by omega)]
    · exact hMF.onto (fun k g1 g2 => HE k (by omega))
  · exact vset_bel (vset_bel (vset_bel (vset_bel (vset_bel (vset_bel (vonto HW1.out HB2.out) (by simp)) (by simp)) (by simp)) (by simp)) (by simp)) (by simp)
end Go.Proofs.YtnpojefcibfgkabGreatDoor
