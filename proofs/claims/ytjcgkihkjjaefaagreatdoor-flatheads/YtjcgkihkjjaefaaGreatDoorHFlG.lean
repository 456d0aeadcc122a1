
import Derived.Test.YtjcgkihkjjaefaaGreatDoorHFlE
/- slices.Insert of one path ahead of others, in the row that is there; and every way. -/
namespace Go.Proofs.YtjcgkihkjjaefaaGreatDoor
open Go.RowKit

theorem grown_trans {w w1 w2 : World} {o : Option Nat} (h : w.grownBy w1 o) (k : w1.grownBy w2 o) : w.grownBy w2 o :=
  ⟨k.os.trans h.os, k.tape.trans h.tape, k.output.trans h.output, Nat.le_trans h.size k.size, fun j hj hn => (k.block j (Nat.lt_of_lt_of_le hj h.size) hn).trans (h.block j hj hn)⟩
set_option maxRecDepth 100000 in
set_option maxHeartbeats 2000000 in
theorem cins_shift (B n i g cc ab : Nat) (U : List Value) (u : Value) (w : World) (hi : i < n) (hO : w.ownsRow B 38 1 (.slice (some ⟨g, 0, none⟩) n cc) n U) (hcc : n + 1 ≤ cc) (hab : w.heap[ab]? = some (.cells #[u] 38 (0, 0))) (hne : ¬ ab = g) (h1 : u.oneCell' = true) (hone : ∀ v ∈ U, v.oneCell' = true) (hm : n ≤ 1000000) :
    Calls Tryz.prog 41 #[.slice (some ⟨g, 0, none⟩) n cc, .int .i64 (i : Int), .slice (some ⟨ab, 0, none⟩) 1 1] w (Ins1 B n i U u (.slice (some ⟨g, 0, none⟩) n cc) w) := by
  obtain ⟨i1, hi', hz0', hz1', hz2'⟩ := info_parts Tryz.infoPath1
  have hsz : (Tryz.prog.info? 38).map (·.size) = some 1 := by rw [hi']; simp [hz1']
  have hlen : U.length = n := by have := hO.1; omega
  have hcell : ∀ j v, U[j]? = some v → w.cell? ⟨g, j, none⟩ = some v := fun j v hv => by
    rw [hO.cellAt j (by have := lt_of_some hv; omega)]; exact hv
  obtain ⟨cur, hBg, hheap, hcm, hcs, htk⟩ : ∃ cur : Array Value, B ≤ g ∧ w.heap[g]? = some (.cells cur 38 (0, 0)) ∧ cc ≤ maxLen ∧ cur.size = cc ∧ cur.toList.take n = U := by
    rcases hO.2 with ⟨e, -⟩ | ⟨g', cap', cur, e, a1, a2, a3, a4, a5, a6⟩
    · cases e
    · injection e with e1 e2 e3
      injection e1 with e1
      injection e1 with e1
      subst e1 e3
      exact ⟨cur, a1, a2, a4, by omega, by simpa using a6⟩
  have hcur : ∀ j, j < n → cur[j]? = U[j]? := fun j hj => by rw [← htk, List.getElem?_take, if_pos hj]; simp
  have hu : w.cell? ⟨ab, 0, none⟩ = some u := by rw [cell_of_row w ab 0 _ _ _ hab]; rfl
  have hsome : ∀ j, j < cc → (w.cell? ⟨g, j, none⟩).isSome = true := fun j hj => by
    rw [cell_of_row w g j cur _ _ hheap, Array.getElem?_eq_getElem (by omega)]; rfl
  have hfz : ∀ j, w.frozen? ⟨g, j, none⟩ = false := fun j => by simp [World.frozen?, hheap]
  have hov : ∀ lb cb, (callFunc 69 #[.slice (some ⟨ab, 0, none⟩) 1 1, .slice (some ⟨g, i + 1, none⟩) lb cb]).run Tryz.prog w = .ok (.value (.bool false)) w := fun lb cb => by
    rw [run_callFunc_extern Tryz.func69 (by kernel_rfl) (by kernel_rfl) (by kernel_rfl) (e := Extern.SlicesOverlaps.overlaps #[58, 58] #[4]) (by kernel_rfl),
      Lib.run_overlaps_apart w 58 4 38 Tryz.underlying58 1 Tryz.sizeOf38 ⟨ab, 0, none⟩ ⟨g, i + 1, none⟩ 1 1 lb cb hne 38 38 1 cc (by simp [World.shape?, hab]) (by simp [World.shape?, hheap, hcs]) (by omega) (by simp [World.frozen?, hab]) (by simp [World.frozen?, hab])]
    rfl
  have HOV := hid hov
  have hcp : ∀ ty c c', (Builtin.copy_ #[58, 58] ty #[.slice (some ⟨g, i + 1, none⟩) (n - i) c, .slice (some ⟨g, i, none⟩) (n + 1 - i) c']).run Tryz.prog w.drew = .ok (goInt ((n - i : Nat) : Int)) (w.drew.setCells g (i + 1) (U.drop i)) := fun ty c c' => by
    have hmin : Nat.min (n + 1 - i) (n - i) = n - i := Nat.min_eq_right (by omega)
    have := run_copy1 (P := Tryz.prog) w.drew 58 58 ty 38 g (i + 1) (n - i) c ⟨g, i, none⟩ (n + 1 - i) c' (U.drop i) Tryz.underlying58 hsz (by rw [hmin, List.length_drop, hlen]) (fun j v hv => by
      rw [List.getElem?_drop] at hv
      rw [add_off]
      exact hcell _ _ hv) (fun j hj => by
        rw [List.length_drop, hlen] at hj
        exact hsome _ (by omega)) (fun j _ => hfz _) (fun v hv => hone v (List.mem_of_mem_drop hv))
    rw [hmin] at this
    exact this
  have HCP := hid hcp
  have hcp2 : ∀ ty c, (Builtin.copy_ #[58, 58] ty #[.slice (some ⟨g, i, none⟩) (n + 1 - i) c, .slice (some ⟨ab, 0, none⟩) 1 1]).run Tryz.prog (w.drew.setCells g (i + 1) (U.drop i)) = .ok (goInt 1) ((w.drew.setCells g (i + 1) (U.drop i)).setCells g i [u]) := fun ty c => by
    have hmin : Nat.min 1 (n + 1 - i) = 1 := Nat.min_eq_left (by omega)
    have := run_copy1 (P := Tryz.prog) (w.drew.setCells g (i + 1) (U.drop i)) 58 58 ty 38 g i (n + 1 - i) c ⟨ab, 0, none⟩ 1 1 [u] Tryz.underlying58 hsz (by rw [hmin]; rfl) (fun j v hv => by
      cases j with
      | zero =>
        simp at hv; subst hv
        show (w.drew.setCells g (i + 1) (U.drop i)).cell? ⟨ab, 0, none⟩ = some u
        rw [World.cell?_setCells_out _ _ _ _ _ (fun e => absurd (show ab = g from e) hne)]
        exact hu
      | succ j => simp at hv) (fun j hj => by
        exact World.isSome_setCells _ _ _ _ _ (hsome _ (by simp at hj; omega))) (fun j _ => by rw [World.frozen?_setCells]; exact hfz _) (by intro v hv; simp at hv; subst hv; exact h1)
    rw [hmin] at this
    exact this
  have HCP2 := hid hcp2
  obtain ⟨W2, hW2⟩ : ∃ W2, W2 = w.drew.setCells g (i + 1) (U.drop i) := ⟨_, rfl⟩
  have H20 := hid hW2
  rw [← hW2] at HCP HCP2
  have e1 : ((n : Int) + 1 - (i : Int)) = ((n + 1 - i : Nat) : Int) := by omega
  have ne1 : ((i : Int) == (n : Int)) = false := by simp; omega
  have hcc2 : cc ≤ 9223372036854775807 := by unfold maxLen at hcm; omega
  have H6 := hid hlen; have H8 := hid hheap; have H3 := hid hBg; have H4 := hid hcs; have H5 := hid hcur; have H7 := hid hcm
  clear hcp hcp2 hW2 hone hu h1 hheap hsome hfz hi' hz0' hz1' hz2' hO hcell hBg hlen hcs hcur htk hov hab hcm
  go_enter Tryz.func41, Tryz.ntmps41
  go_wp2_with (simp only [HOV.out])
  refine wp_region_ends2 (S := fun _ => True) (by simp) (by kernel_rfl) (by kernel_rfl) (by kernel_rfl) (by kernel_rfl) (by kernel_rfl) (by kernel_rfl) ?_
  simp only [List.dropLast, List.getLast_cons_cons, List.getLast_singleton, List.length_cons, List.length_nil]
  refine take_h (i := 0) (v := .slice (some ⟨g, 0, none⟩) (n + 1) cc) rfl (by kernel_rfl) (by kernel_rfl) (by kernel_rfl) (fun _ _ _ h => h) (by rfl) ?_ trivial ?_
  · (intro X hX; go_simp)
  simp only [Act.put, List.setIfInBounds_toArray, List.set_cons_zero, List.set_cons_succ]
  refine take_h (i := 1) (v := .int .i64 (i : Int)) rfl (by kernel_rfl) (by kernel_rfl) (by kernel_rfl) (fun _ _ _ h => h) (by rfl) ?_ trivial ?_
  · (intro X hX; go_simp)
  simp only [Act.put, List.setIfInBounds_toArray, List.set_cons_zero, List.set_cons_succ]
  refine take_h (i := 2) (v := .int .i64 1) rfl (by kernel_rfl) (by kernel_rfl) (by kernel_rfl) (fun _ _ _ h => h) (by rfl) ?_ trivial ?_
  · (intro X hX; go_simp)
  simp only [Act.put, List.setIfInBounds_toArray, List.set_cons_zero, List.set_cons_succ]
  refine take_h (i := 3) (v := .int .i64 ((i : Int) + 1)) rfl (by kernel_rfl) (by kernel_rfl) (by kernel_rfl) (fun _ _ _ h => h) (by rfl) ?_ trivial ?_
  · (intro X hX; go_simp; rw [IntKind.wrap_i64]; omega)
  simp only [Act.put, List.setIfInBounds_toArray, List.set_cons_zero, List.set_cons_succ]
  refine take_h (i := 4) (v := .slice (some ⟨g, i + 1, none⟩) (n - i) (cc - (i + 1))) rfl (by kernel_rfl) (by kernel_rfl) (by kernel_rfl) (fun _ _ _ h => h) (by rfl) ?_ trivial ?_
  · (intro X hX; go_simp; rw [if_pos ⟨by omega, by omega⟩, if_neg (by omega)])
  simp only [Act.put, List.setIfInBounds_toArray, List.set_cons_zero, List.set_cons_succ]
  refine take_h (i := 5) (v := .slice (some ⟨g, 0, none⟩) (n + 1) cc) rfl (by kernel_rfl) (by kernel_rfl) (by kernel_rfl) (fun _ _ _ h => h) (by rfl) ?_ trivial ?_
  · (intro X hX; go_simp)
  simp only [Act.put, List.setIfInBounds_toArray, List.set_cons_zero, List.set_cons_succ]
  refine take_h (i := 6) (v := .int .i64 (i : Int)) rfl (by kernel_rfl) (by kernel_rfl) (by kernel_rfl) (fun _ _ _ h => h) (by rfl) ?_ trivial ?_
  · (intro X hX; go_simp)
  simp only [Act.put, List.setIfInBounds_toArray, List.set_cons_zero, List.set_cons_succ]
  refine take_h (i := 7) (v := .slice (some ⟨g, i, none⟩) (n + 1 - i) (cc - i)) rfl (by kernel_rfl) (by kernel_rfl) (by kernel_rfl) (fun _ _ _ h => h) (by rfl) ?_ trivial ?_
  · (intro X hX; go_simp; rw [if_pos (by omega), if_neg (by omega)])
  simp only [Act.put, List.setIfInBounds_toArray, List.set_cons_zero, List.set_cons_succ]
  refine wpAnyH_done (by kernel_rfl) ?_ _
  change Oper.wp _ _ _ _ _ _
  refine wp_copy1 _ (.tmp 73) (.tmp 76) 58 58 rfl _ _ (by rfl) (by rfl) (HCP.out _ _ _) ?_
  go_wp2_with fail
  rw [HCP2.out]
  go_wp2_with fail
  go_ret
  have hp : (W2.setCells g i [u]).heap[g]? = some (.cells (putA (putA cur (i + 1) (U.drop i)) i [u]) 38 (0, 0)) := by
    rw [H20.out]
    exact heap_setCells _ _ _ _ (heap_setCells _ _ _ _ H8.out)
  have hlen := H6.out
  have hcs := H4.out
  refine ⟨_, rfl, own_put hp H3.out hlen (by omega) hcc H7.out (by rw [putA_size, putA_size]; exact hcs) (fun j hj => ?_), ?_⟩
  · rw [cins_at U u i j (by omega), putA_at _ _ _ _ (by rw [putA_size, hcs, List.length_singleton]; omega), putA_at _ _ _ _ (by rw [hcs, List.length_drop]; omega), List.length_drop, List.length_singleton]
    by_cases h1 : j < i
    · rw [if_neg (by omega), if_neg (by omega), if_pos h1]; exact H5.out j (by omega)
    · rw [if_neg h1]
      by_cases h2 : j = i
      · subst h2; rw [if_pos (by omega), if_pos rfl, Nat.sub_self]; rfl
      · rw [if_neg (by omega), if_pos (by omega), if_neg h2, List.getElem?_drop, show i + (j - (i + 1)) = j - 1 by omega]
  · have g1 := grown_setCells w.drew g (U.drop i) (i + 1)
    have g2 := grown_setCells W2 g [u] i
    rw [← H20.out] at g1
    have g0 : w.grownBy w.drew (some g) := ⟨rfl, rfl, rfl, Nat.le_refl _, fun _ _ _ => rfl⟩
    exact grown_trans g0 (grown_trans g1 g2)
/-- every way -/
theorem cins_any (B n i ab : Nat) (U : List Value) (u cv : Value) (w : World) (hi : i ≤ n) (hO : w.ownsRow B 38 1 cv n U) (hB : B ≤ w.heap.size) (hab : w.heap[ab]? = some (.cells #[u] 38 (0, 0))) (hne : ∀ g, cv.ownBlock = some g → ¬ ab = g) (h1 : u.oneCell' = true) (hone : ∀ v ∈ U, v.oneCell' = true) (hm : n ≤ 1000000) :
    Calls Tryz.prog 41 #[cv, .int .i64 (i : Int), .slice (some ⟨ab, 0, none⟩) 1 1] w (Ins1 B n i U u cv w) := by
  have hu : w.cell? ⟨ab, 0, none⟩ = some u := by rw [cell_of_row w ab 0 _ _ _ hab]; rfl
  by_cases he : i = n
  · subst he
    exact cins_end B i U u cv ⟨ab, 0, none⟩ w hO hB hu h1 hm
  · have hf := hO.2
    rcases hf with ⟨-, e⟩ | ⟨g, cap, cur, rfl, -, -, h3, -, -⟩
    · omega
    · by_cases hr : n + 1 ≤ cap
      · exact cins_shift B n i g cap ab U u w (by omega) hO hr hab (hne g rfl) h1 hone hm
      · obtain rfl : cap = n := by omega
        exact cins_grow B cap i g U u ⟨ab, 0, none⟩ w (by omega) hO hB hu h1 hone hm
end Go.Proofs.YtjcgkihkjjaefaaGreatDoor
