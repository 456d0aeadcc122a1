import Derived.Test.YtjcejjejlekelaaGreatDoorPathDel
import Derived.Deep.RegionLawGrows
import Derived.ArgAppend
import Derived.Lib.AppendZerosOnto
import Derived.Lib.AppendZeros
import Derived.Laws.IdiomCopy
import Derived.Test.YtjcejjejlekelaaGreatDoorPathPut
/- path.insert, walked: where a pair goes. -/
/- slices.Insert of one pair into a slice without room. -/
/- slices.Insert of one pair into a slice without room: ahead of others. -/
/- path.insert, walked. -/
/- A pair more in a map: what then lies in memory. -/
/- path.put, walked: a pair more. -/
/- path.put, walked: in every case. -/
namespace Go.Proofs.YtjcejjejlekelaaGreatDoor
open Go.RowKit

theorem gt_is (c key : ByteArray) : (!Op.bytesLess c.toList key.toList && !c.toList == key.toList) = ltB key.data.toList c.data.toList := by
  rw [Lib.toList_data, Lib.toList_data]
  show (!ltB c.data.toList key.data.toList && !c.data.toList == key.data.toList) = _
  rcases ltB_tri c.data.toList key.data.toList with ⟨h1, h2, -⟩ | h | ⟨h1, h2, h3⟩
  · rw [h1, h2]; rfl
  · rw [h, ltB_irr]; simp
  · rw [h1, h2]; simpa using h3
theorem ins1_any (key : ByteArray) (B : Nat) (W : World) (hB : W.cell? ⟨B, 0, none⟩ = some (.string key)) (c : ByteArray) (t : VT) (o1 : Option Addr) (n1 c1 : Nat) (o2 : Option Addr) (n2 c2 : Nat) :
    Calls Tryz.prog 93 #[.agg #[.string c, .int .i64 t.kd, .int .i64 t.nm, .string t.st, .slice o1 n1 c1, .slice o2 n2 c2], .pointer (some ⟨B, 0, none⟩)] W fun e w' => e = .returned (.bool (ltB key.data.toList c.data.toList)) ∧ Below W.heap.size W w' := by
  have k0 := keepCell (valloc_bel (Below.refl W.heap.size W) (.cells #[.string c, .int .i64 t.kd, .int .i64 t.nm, .string t.st, .slice o1 n1 c1, .slice o2 n2 c2] 69)) hB
  clear hB
  go_enter Tryz.func93, Tryz.ntmps93
  go_wp2_with fail
  go_ret
  exact ⟨ret_bool (gt_is c key), valloc_bel (Below.refl _ _) _⟩
end Go.Proofs.YtjcejjejlekelaaGreatDoor
namespace Go.Proofs.YtjcejjejlekelaaGreatDoor
open Go.RowKit

set_option maxRecDepth 100000 in
set_option maxHeartbeats 2000000 in
theorem sins_end (n : Nat) (o : Option Addr) (olds news : List Value) (ad : Addr) (w : World) (hnone : o = none → n = 0 ∧ n = 0) (hlo : olds.length = n * 6) (holds : ∀ b, o = some b → ∀ j u, olds[j]? = some u → w.cell? (b.add j) = some u) (hn : news.length = 6) (hnews : ∀ j u, news[j]? = some u → w.cell? (ad.add j) = some u) (h1c : ∀ u ∈ news, u.oneCell' = true) (hm : n ≤ 1000000) :
    Calls Tryz.prog 94 #[.slice o n n, .int .i64 (n : Int), .slice (some ad) 1 1] w fun e w' => ∃ v', e = .returned v' ∧ w'.ownsRow w.heap.size 69 6 v' (n + 1) (olds ++ news) ∧ Below w.heap.size w w' := by
  obtain ⟨i1, hi', hz0', hz1', hz2'⟩ := info_parts Tryz.info34
  have h1 := hid hnone; have h2 := hid hlo; have h3 := hid holds; have h4 := hid hn; have h5 := hid hnews; have h6 := hid h1c
  clear hnone hlo holds hn hnews h1c
  go_enter Tryz.func94, Tryz.ntmps94
  have hii : ((n : Int) == (n : Int)) = true := by simp
  go_wp2_with (at_builtin; go_must (refine wpList_append_grows _ rfl (.tmp 23) (.tmp 24) 29 rfl 69 i1 (.agg #[.string ⟨#[]⟩, .int .i64 0, .int .i64 0, .string ⟨#[]⟩, .slice none 0 0, .slice none 0 0]) 6 96 Tryz.underlying29 hi' hz0' hz1' hz2' rfl (by decide) o n n olds (by rfl) h1.out h2.out h3.out ad 1 1 news (by rfl) h4.out h5.out h6.out (by omega) (by unfold maxLen; omega) (by omega) ?_; intro v9 w9 hown9 hgr9))
  all_goals go_ret
  all_goals exact ⟨_, rfl, hown9, (Below.refl _ _).grown hgr9 (Nat.le_refl _) (fun q hq => by simp at hq)⟩
end Go.Proofs.YtjcejjejlekelaaGreatDoor
namespace Go.Proofs.YtjcejjejlekelaaGreatDoor
open Go.RowKit

theorem run_copyK {P : Program} (w : World) (dT sT ty elem : TypeId) (k b o dLen dCap : Nat) (a : Addr) (sLen sCap : Nat) (cs : List Value)
    (hu : P.underlying dT = some (.slice elem)) (hs : (P.info? elem).map (·.size) = some k) (hn : cs.length = Nat.min sLen dLen * k)
    (hsrc : ∀ j v, cs[j]? = some v → w.cell? (a.add j) = some v) (hc : ∀ j, j < cs.length → (w.cell? ⟨b, o + j, none⟩).isSome = true) (hf : ∀ j, j < cs.length → w.frozen? ⟨b, o + j, none⟩ = false) (h1 : ∀ v ∈ cs, v.oneCell' = true) :
    (Builtin.copy_ #[dT, sT] ty #[.slice (some ⟨b, o, none⟩) dLen dCap, .slice (some a) sLen sCap]).run P w = .ok (goInt (Nat.min sLen dLen)) (w.setCells b o cs) := by
  have hl := run_loadCells_list (P := P) w a cs hsrc
  have hst := run_storeCells_cells (P := P) b o cs 0 w (by simpa using hc) (by simpa using hf) h1
  cases hq : P.info? elem with
  | none => simp [hq] at hs
  | some i =>
    have hi : i.size = k := by simpa [hq] using hs
    simp [Builtin.copy_, run_underlying hu, Builtin.lenOf, Builtin.firstCells, sizeOf, typeInfo, hq, hi, ← hn, hl, hst]
theorem copy_run {P : Program} (w : World) {o : Oper} {a : Act} {K : Act → World → Prop} {Q : Exit → Act → World → Prop} (d s : Operand) (t t' : TypeId)
    (ho : o.op = .call { callee := .builtin .copy, args := #[d, s], argTypes := #[t, t'] }) (v u : Value) (hd : a.eval d = v) (hs : a.eval s = u) {v' : Value} {w' : World}
    (hr : (Builtin.copy_ #[t, t'] o.type #[v, u]).run P w = .ok v' w') (h : K (a.put o.dst v') w') : o.wp P a w K Q := by
  unfold Oper.wp execOp
  simp only [ho, resolve, invoke, builtin, Sem.run_bind, Sem.run_pure, Result.andThen_ok, List.map_toArray, List.map_cons, List.map_nil, hd, hs, hr]
  exact h
theorem copy_runL {P : Program} (w : World) {ops : Array Oper} {rest : List Oper} {o : Oper} {a : Act} {Q : Exit → Act → World → Prop} (hgd : o.guard = none) (d s : Operand) (t t' : TypeId)
    (ho : o.op = .call { callee := .builtin .copy, args := #[d, s], argTypes := #[t, t'] }) (v u : Value) (hd : a.eval d = v) (hs : a.eval s = u) {v' : Value} {w' : World}
    (hr : (Builtin.copy_ #[t, t'] o.type #[v, u]).run P w = .ok v' w') (h : wpList P ops Q rest (a.put o.dst v') w') : wpList P ops Q (o :: rest) a w :=
  wpList_plain hgd fun _ hK => copy_run w d s t t' ho v u hd hs hr (hK _ _ h)
theorem heap_new' (w : World) (o : Obj) : (w.alloc o).heap[w.heap.size]? = some o := by simp only [World.alloc, Array.getElem?_push_size]
theorem cap_fits (n : Nat) (h : n ≤ 1000000) : Builtin.nextslicecap (n + 1) n * 96 ≤ 281474976710656 := by
  unfold Builtin.nextslicecap
  split
  · omega
  · split
    · omega
    · have : Builtin.growBy (n + 1) 4 n ≤ 4000000 := by
        simp only [Builtin.growBy]
        repeat' split
        all_goals omega
      omega
/-- a slice in a new row -/
def NewRow (w w' : World) (n : Nat) (v : Value) (xs : List Value) : Prop := ∃ g cap, v = .slice (some ⟨g, 0, none⟩) n cap ∧ w.heap.size ≤ g ∧ g < w'.heap.size ∧ n ≤ cap ∧ cap ≤ maxLen ∧ ∀ j u, xs[j]? = some u → w'.cell? ⟨g, j, none⟩ = some u
theorem zeros_size (z : Array Value) (n : Nat) : (Builtin.zeroCells z n).size = n * z.size := by simp [Builtin.zeroCells]
set_option maxRecDepth 100000 in
set_option maxHeartbeats 2000000 in
theorem sins_mid (n i b : Nat) (olds news : List Value) (ad : Addr) (w : World) (hi : i < n) (hlo : olds.length = n * 6) (holds : ∀ j u, olds[j]? = some u → w.cell? ⟨b, j, none⟩ = some u) (hone : ∀ u ∈ olds, u.oneCell' = true) (hn : news.length = 6) (hnews : ∀ j u, news[j]? = some u → w.cell? (ad.add j) = some u) (h1c : ∀ u ∈ news, u.oneCell' = true) (hm : n ≤ 1000000) :
    Calls Tryz.prog 94 #[.slice (some ⟨b, 0, none⟩) n n, .int .i64 (i : Int), .slice (some ad) 1 1] w fun e w' => ∃ v', e = .returned v' ∧ NewRow w w' (n + 1) v' (olds.take (i * 6) ++ (news ++ olds.drop (i * 6))) ∧ Below w.heap.size w w' := by
  obtain ⟨i1, hi', hz0', hz1', hz2'⟩ := info_parts Tryz.info34
  have hsz : (Tryz.prog.info? 69).map (·.size) = some 6 := by rw [hi']; simp [hz1']
  obtain ⟨C, hC⟩ : ∃ C, C = grownCap w (n + 1) n 69 := ⟨_, rfl⟩
  have hC1 : n + 1 ≤ C := by rw [hC]; exact grownCap_ge _ _ _ _
  have hC2 : C ≤ maxLen := by rw [hC]; exact grownCap_le_maxLen _ _ _ _ (by unfold maxLen; omega)
  obtain ⟨R, hR⟩ : ∃ R : Array Value, R = (olds.take (i * 6)).toArray ++ Builtin.zeroCells (.agg #[.string ⟨#[]⟩, .int .i64 0, .int .i64 0, .string ⟨#[]⟩, .slice none 0 0, .slice none 0 0] : Value).cells (n + 1 - i) ++ Builtin.zeroCells (.agg #[.string ⟨#[]⟩, .int .i64 0, .int .i64 0, .string ⟨#[]⟩, .slice none 0 0, .slice none 0 0] : Value).cells (C - (n + 1)) := ⟨_, rfl⟩
  have hRs : R.size = C * 6 := by
    rw [hR, Array.size_append, Array.size_append, zeros_size, zeros_size]
    show (olds.take (i * 6)).length + (n + 1 - i) * 6 + (C - (n + 1)) * 6 = C * 6
    rw [List.length_take]; omega
  obtain ⟨W1, hW1⟩ : ∃ W1, W1 = w.drew.alloc (.cells R 69) := ⟨_, rfl⟩
  have hb1 : Below w.heap.size w W1 := by rw [hW1]; exact valloc_bel (Below.refl _ _).drew _
  have hheap : W1.heap[w.heap.size]? = some (.cells R 69) := by rw [hW1]; exact heap_new' w.drew _
  have hsome : ∀ j, j < C * 6 → (W1.cell? ⟨w.heap.size, j, none⟩).isSome = true := fun j hj => by
    rw [cell_of_row W1 w.heap.size j R _ _ hheap, Array.getElem?_eq_getElem (by omega)]; rfl
  have hfz : ∀ j, W1.frozen? ⟨w.heap.size, j, none⟩ = false := fun j => by simp [World.frozen?, hheap]
  have hr : ∀ ty, (Builtin.append_ #[29, 3] ty #[.slice (some ⟨b, 0, none⟩) i n, .int .i64 ((n + 1 - i : Nat) : Int)]).run Tryz.prog w = .ok (.slice (some ⟨w.heap.size, 0, none⟩) (n + 1) C) W1 := fun ty => by
    have := Lib.run_append_grow_zeros (P := Tryz.prog) w 29 3 ty 69 i1 _ .i64 .i64 Tryz.underlying29 Tryz.underlying3 hi' hz0' (some ⟨b, 0, none⟩) i n (olds.take (i * 6)) (run_firstCells_some _ _ _ _ _ _ _ (by rw [List.length_take, hz1']; omega) (fun j v hv => by
      rw [add_at]
      refine holds j v ?_
      rw [List.getElem?_take] at hv
      split at hv
      · exact hv
      · cases hv)) (n + 1 - i) (by omega) (by rw [hz1']; decide) (by omega) (by omega) (by rw [hz2']; omega) (by rw [hz2', show i + (n + 1 - i) = n + 1 by omega]; exact cap_fits n hm)
    rw [show i + (n + 1 - i) = n + 1 by omega, ← hC, ← hR, ← hW1] at this
    exact this
  have hcp : ∀ ty c, (Builtin.copy_ #[29, 29] ty #[.slice (some ⟨w.heap.size, i * 6, none⟩) (n + 1 - i) c, .slice (some ad) 1 1]).run Tryz.prog W1 = .ok (goInt 1) (W1.setCells w.heap.size (i * 6) news) := fun ty c => by
    have hmin : Nat.min 1 (n + 1 - i) = 1 := Nat.min_eq_left (by omega)
    have := run_copyK (P := Tryz.prog) W1 29 29 ty 69 6 w.heap.size (i * 6) (n + 1 - i) c ad 1 1 news Tryz.underlying29 hsz (by rw [hmin, hn]) (fun j v hv => keepCell hb1 (hnews j v hv)) (fun j hj => hsome _ (by omega)) (fun j _ => hfz _) h1c
    rw [hmin] at this
    exact this
  have HCP := hid hcp
  have hcp2 : ∀ ty c, (Builtin.copy_ #[29, 29] ty #[.slice (some ⟨w.heap.size, (i + 1) * 6, none⟩) (n - i) c, .slice (some ⟨b, i * 6, none⟩) (n - i) (n - i)]).run Tryz.prog (W1.setCells w.heap.size (i * 6) news).drew = .ok (goInt ((n - i : Nat) : Int)) ((W1.setCells w.heap.size (i * 6) news).drew.setCells w.heap.size ((i + 1) * 6) (olds.drop (i * 6))) := fun ty c => by
    have hmin : Nat.min (n - i) (n - i) = n - i := Nat.min_self _
    have hbw : ∀ j u, olds[j]? = some u → b < w.heap.size := fun j u hu => World.block_lt_of_cell? w ⟨b, j, none⟩ (holds j u hu)
    have := run_copyK (P := Tryz.prog) (W1.setCells w.heap.size (i * 6) news).drew 29 29 ty 69 6 w.heap.size ((i + 1) * 6) (n - i) c ⟨b, i * 6, none⟩ (n - i) (n - i) (olds.drop (i * 6)) Tryz.underlying29 hsz (by rw [hmin, List.length_drop, hlo]; omega) (fun j v hv => by
      rw [List.getElem?_drop] at hv
      rw [add_off]
      have hb := hbw _ _ hv
      show (W1.setCells w.heap.size (i * 6) news).cell? ⟨b, i * 6 + j, none⟩ = some v
      rw [World.cell?_setCells_out _ _ _ _ _ (fun e => by have e' : b = w.heap.size := e; omega)]
      exact keepCell hb1 (holds _ _ hv)) (fun j hj => by
        rw [List.length_drop, hlo] at hj
        show ((W1.setCells w.heap.size (i * 6) news).cell? _).isSome = true
        exact World.isSome_setCells _ _ _ _ _ (hsome _ (by omega))) (fun j _ => by
        show (W1.setCells w.heap.size (i * 6) news).frozen? _ = false
        rw [World.frozen?_setCells]; exact hfz _) (fun v hv => hone v (List.mem_of_mem_drop hv))
    rw [hmin] at this
    exact this
  have HCP2 := hid hcp2
  obtain ⟨W2, hW2⟩ : ∃ W2, W2 = W1.setCells w.heap.size (i * 6) news := ⟨_, rfl⟩
  have H20 := hid hW2
  have e1 : ((n : Int) + 1 - (i : Int)) = ((n + 1 - i : Nat) : Int) := by omega
  have ne1 : ((i : Int) == (n : Int)) = false := by simp; omega
  have HR := hid hr
  have H1 := hid holds; have H2 := hid hone; have H3 := hid hn; have H4 := hid hnews; have H5 := hid h1c; have H6 := hid hlo; have H7 := hid hb1; have H8 := hid hheap; have H9 := hid hsome; have H10 := hid hfz; have H11 := hid hRs; have H12 := hid hR
  clear hcp hcp2 hW2 hr holds hone hn hnews h1c hlo hb1 hheap hsome hfz hRs hR hW1 hC hi' hz0' hz1' hz2'
  go_enter Tryz.func94, Tryz.ntmps94
  go_wp2_with (at_builtin; go_must (refine Lib.wpList_append_run _ rfl (.tmp 34) (.tmp 39) 29 3 rfl (.slice (some ⟨b, 0, none⟩) i n) (.int .i64 ((n + 1 - i : Nat) : Int)) (by rfl) (by simp [Act.eval]) _ _ (HR.out _) ?_))
  rw [HCP.out, ← H20.out]
  rw [← H20.out] at HCP2
  go_wp2_with fail
  refine wp_region_ends2 (S := fun _ => True) (by simp) (by kernel_rfl) (by kernel_rfl) (by kernel_rfl) (by kernel_rfl) (by kernel_rfl) (by kernel_rfl) ?_
  simp only [List.dropLast, List.getLast_cons_cons, List.getLast_singleton, List.length_cons, List.length_nil]
  refine take_h (i := 0) (v := .slice (some ⟨w.heap.size, 0, none⟩) (n + 1) C) rfl (by kernel_rfl) (by kernel_rfl) (by kernel_rfl) (fun _ _ _ h => h) (by rfl) ?_ trivial ?_
  · (intro X hX; go_simp)
  simp only [Act.put, List.setIfInBounds_toArray, List.set_cons_zero, List.set_cons_succ]
  refine take_h (i := 1) (v := .int .i64 (i : Int)) rfl (by kernel_rfl) (by kernel_rfl) (by kernel_rfl) (fun _ _ _ h => h) (by rfl) ?_ trivial ?_
  · (intro X hX; go_simp)
  simp only [Act.put, List.setIfInBounds_toArray, List.set_cons_zero, List.set_cons_succ]
  refine take_h (i := 2) (v := .int .i64 1) rfl (by kernel_rfl) (by kernel_rfl) (by kernel_rfl) (fun _ _ _ h => h) (by rfl) ?_ trivial ?_
  · (intro X hX; go_simp)
  simp only [Act.put, List.setIfInBounds_toArray, List.set_cons_zero, List.set_cons_succ]
  refine take_h (i := 3) (v := .int .i64 ((i : Int) + 1)) rfl (by kernel_rfl) (by kernel_rfl) (by kernel_rfl) (fun _ _ _ h => h) (by rfl) ?_ trivial ?_
  · (intro X hX; go_simp; rw [IntKind.wrap_i64]; omega)
  simp only [Act.put, List.setIfInBounds_toArray, List.set_cons_zero, List.set_cons_succ]
  refine take_h (i := 4) (v := .slice (some ⟨w.heap.size, (i + 1) * 6, none⟩) (n - i) (C - (i + 1))) rfl (by kernel_rfl) (by kernel_rfl) (by kernel_rfl) (fun _ _ _ h => h) (by rfl) ?_ trivial ?_
  · (intro X hX; go_simp; rw [if_pos ⟨by omega, by omega⟩, if_neg (by omega)])
  simp only [Act.put, List.setIfInBounds_toArray, List.set_cons_zero, List.set_cons_succ]
  refine take_h (i := 5) (v := .slice (some ⟨b, 0, none⟩) n n) rfl (by kernel_rfl) (by kernel_rfl) (by kernel_rfl) (fun _ _ _ h => h) (by rfl) ?_ trivial ?_
  · (intro X hX; go_simp)
  simp only [Act.put, List.setIfInBounds_toArray, List.set_cons_zero, List.set_cons_succ]
  refine take_h (i := 6) (v := .int .i64 (i : Int)) rfl (by kernel_rfl) (by kernel_rfl) (by kernel_rfl) (fun _ _ _ h => h) (by rfl) ?_ trivial ?_
  · (intro X hX; go_simp)
  simp only [Act.put, List.setIfInBounds_toArray, List.set_cons_zero, List.set_cons_succ]
  refine take_h (i := 7) (v := .slice (some ⟨b, i * 6, none⟩) (n - i) (n - i)) rfl (by kernel_rfl) (by kernel_rfl) (by kernel_rfl) (fun _ _ _ h => h) (by rfl) ?_ trivial ?_
  · (intro X hX; go_simp; rw [if_pos (by omega), if_neg (by omega)])
  simp only [Act.put, List.setIfInBounds_toArray, List.set_cons_zero, List.set_cons_succ]
  refine wpAnyH_done (by kernel_rfl) ?_ _
  change Oper.wp _ _ _ _ _ _
  refine copy_run _ (.tmp 50) (.tmp 53) 29 29 rfl _ _ (by rfl) (by rfl) (HCP2.out _ _) ?_
  go_wp2_with fail
  go_ret
  have hbW := cells_bel (B := w.heap.size) (Nat.le_refl _) (olds.drop (i * 6)) ((i + 1) * 6) W2.drew (by rw [H20.out]; exact (cells_bel (Nat.le_refl _) _ _ _ H7.out).drew)
  have hlt : w.heap.size < W1.heap.size := (Array.getElem?_eq_some_iff.1 H8.out).1
  have hlo := H6.out
  have hln := H3.out
  refine ⟨_, rfl, ⟨w.heap.size, C, rfl, Nat.le_refl _, ?_, hC1, hC2, fun j u hu => ?_⟩, hbW⟩
  · rw [cells_size, show W2.drew.heap.size = W2.heap.size from rfl, H20.out, cells_size]; exact hlt
  · have hlt2 : (olds.take (i * 6)).length = i * 6 := by rw [List.length_take]; omega
    have hs2 : ∀ q, q < C * 6 → (W2.drew.cell? ⟨w.heap.size, q, none⟩).isSome = true := fun q hq => by
      show (W2.cell? _).isSome = true
      rw [H20.out]; exact World.isSome_setCells _ _ _ _ _ (H9.out q hq)
    by_cases h1 : j < i * 6
    · rw [List.getElem?_append_left (by omega)] at hu
      rw [World.cell?_setCells_out _ _ _ _ _ (fun _ _ => .inl (by show j < _; omega))]
      show W2.cell? _ = _
      rw [H20.out, World.cell?_setCells_out _ _ _ _ _ (fun _ _ => .inl (by show j < _; omega)), cell_of_row W1 w.heap.size j R _ _ H8.out, H12.out, Array.getElem?_append_left (by simp; omega), Array.getElem?_append_left (by simp; omega)]
      simpa using hu
    · rw [List.getElem?_append_right (by omega), hlt2] at hu
      by_cases h2 : j < i * 6 + 6
      · rw [List.getElem?_append_left (by omega)] at hu
        rw [World.cell?_setCells_out _ _ _ _ _ (fun _ _ => .inl (by show j < _; omega))]
        show W2.cell? _ = _
        have := World.cell?_setCells_in w.heap.size news (i * 6) W1 (fun q hq => H9.out _ (by omega)) (j - i * 6) (by omega)
        rw [show i * 6 + (j - i * 6) = j by omega] at this
        rw [H20.out, this, ← hu, List.getElem?_eq_getElem]
      · rw [List.getElem?_append_right (by omega), hln] at hu
        have hq := lt_of_some hu
        have hdl : (olds.drop (i * 6)).length = n * 6 - i * 6 := by rw [List.length_drop, hlo]
        have := World.cell?_setCells_in w.heap.size (olds.drop (i * 6)) ((i + 1) * 6) W2.drew (fun q hq => hs2 _ (by omega)) (j - i * 6 - 6) hq
        rw [show (i + 1) * 6 + (j - i * 6 - 6) = j by omega] at this
        rw [this, ← hu, List.getElem?_eq_getElem]
end Go.Proofs.YtjcejjejlekelaaGreatDoor
namespace Go.Proofs.YtjcejjejlekelaaGreatDoor
open Go.RowKit

theorem row_olds6 {w : World} {lo hi : Nat} {K : List ByteArray} {V : List VT} {o : Option Addr} {n c : Nat} (h : MF w lo hi K V (.slice o n c)) : n = V.length ∧ c = n ∧ (o = none → n = 0 ∧ n = 0) ∧ ∃ (b : Nat) (olds : List Value), (0 < n → o = some ⟨b, 0, none⟩) ∧ olds.length = n * 6 ∧ (∀ u ∈ olds, u.oneCell' = true) ∧ ∀ j u, olds[j]? = some u → w.cell? ⟨b, j, none⟩ = some u := by
  have h9 := h
  obtain ⟨b', l, f, g, ⟨o', hx, hmax, ho⟩, -, -, -, -, h4, h5⟩ := h
  injection hx with e1 e2 e3
  subst e1 e2
  refine ⟨rfl, e3, fun hn => ?_, ?_⟩
  · rcases Nat.eq_zero_or_pos V.length with e | e
    · exact ⟨e, e⟩
    · obtain ⟨q, -⟩ := ho e; rw [hn] at q; cases q
  · rcases Nat.eq_zero_or_pos V.length with e | e
    · exact ⟨b', [], fun h => by omega, by rw [e]; rfl, fun u hu => by simp at hu, fun j u hu => by simp at hu⟩
    · obtain ⟨q, -⟩ := ho e
      subst q
      obtain ⟨-, hc, -, -⟩ := row_of6 h9 e
      refine ⟨b', (List.range (V.length * 6)).map fun j => (w.cell? ⟨b', j, none⟩).getD undef, fun _ => rfl, by simp, fun u hu => ?_, fun j u hu => ?_⟩
      · obtain ⟨j, hj, rfl⟩ := List.mem_map.1 hu
        obtain ⟨u, h1, h2⟩ := hc j (List.mem_range.1 hj)
        rw [h1]; exact h2
      · have hj : j < V.length * 6 := by have := lt_of_some hu; simpa using this
        obtain ⟨u', h1, -⟩ := hc j hj
        rw [List.getElem?_map, List.getElem?_range hj] at hu
        simp only [Option.map_some, h1, Option.getD_some, Option.some.injEq] at hu
        subst hu
        exact h1
/-- where a key goes -/
def insI (key : ByteArray) (K : List ByteArray) : Nat := (firstI (fun c => ltB key.data.toList c.data.toList) K).getD K.length
theorem newRow_of {w w1 w' : World} {n : Nat} {v : Value} {olds news : List Value} (h : w'.ownsRow w1.heap.size 69 6 v (n + 1) (olds ++ news)) (hl : olds.length = n * 6) (hn : news.length = 6) (hw : w.heap.size ≤ w1.heap.size) : NewRow w w' (n + 1) v (olds ++ news) := by
  obtain ⟨g, cap, rfl, h1, h2, h3, h4, -, h5, h6⟩ := own_new h hl hn
  refine ⟨g, cap, rfl, by omega, h2, h3, h4, fun j u hu => ?_⟩
  by_cases hj : j < olds.length
  · rw [List.getElem?_append_left hj] at hu; exact h5 j u hu
  · rw [List.getElem?_append_right (by omega)] at hu
    have := h6 _ u hu
    rwa [show n * 6 + (j - olds.length) = j by omega] at this
theorem own_slice' {w : World} {B : Nat} {e : TypeId} {k n : Nat} {v : Value} {xs : List Value} (h : w.ownsRow B e k v n xs) : ∃ o c, v = .slice o n c := by
  rcases h.2 with ⟨rfl, e⟩ | ⟨g, cap, cur, rfl, -⟩
  · exact ⟨none, 0, by rw [e]⟩
  · exact ⟨_, _, rfl⟩
set_option maxRecDepth 100000 in
set_option maxHeartbeats 2000000 in
theorem insert_any (K : List ByteArray) (V : List VT) (o : Option Addr) (n b : Nat) (olds : List Value) (w : World) (hM : InM w K V (.slice o n n)) (hnV : n = V.length) (hnone : o = none → n = 0 ∧ n = 0) (hob : 0 < n → o = some ⟨b, 0, none⟩) (hlo : olds.length = n * 6) (hone : ∀ u ∈ olds, u.oneCell' = true) (holds : ∀ j u, olds[j]? = some u → w.cell? ⟨b, j, none⟩ = some u) (hm : n ≤ 1000000)
    (key : ByteArray) (Tx : VT) (o1 : Option Addr) (n1 c1 : Nat) (o2 : Option Addr) (n2 c2 : Nat) :
    Calls Tryz.prog 67 #[.slice o n n, .agg #[.string key, .int .i64 Tx.kd, .int .i64 Tx.nm, .string Tx.st, .slice o1 n1 c1, .slice o2 n2 c2]] w fun e w' => ∃ v', e = .returned v' ∧ NewRow w w' (n + 1) v' (olds.take (insI key K * 6) ++ ([.string key, .int .i64 Tx.kd, .int .i64 Tx.nm, .string Tx.st, .slice o1 n1 c1, .slice o2 n2 c2] ++ olds.drop (insI key K * 6))) ∧ Below w.heap.size w w' := by
  have HNV := hid hnV
  clear hnV
  have hK : K.length = n := by rw [HNV.out]; obtain ⟨_, _, _, _, h, -⟩ := hM; exact h
  have hb0 : Below w.heap.size w (w.alloc (.cells #[.string key, .int .i64 Tx.kd, .int .i64 Tx.nm, .string Tx.st, .slice o1 n1 c1, .slice o2 n2 c2] 69)) := valloc_bel (Below.refl _ _) _
  have hbk : (w.alloc (.cells #[.string key, .int .i64 Tx.kd, .int .i64 Tx.nm, .string Tx.st, .slice o1 n1 c1, .slice o2 n2 c2] 69)).cell? ⟨w.heap.size, 0, none⟩ = some (.string key) := by simp
  have CI := hid (idxf_any 93 #[.pointer (some ⟨w.heap.size, 0, none⟩)] (enters_of Tryz.func93 (by kernel_rfl) rfl) (fun c => ltB key.data.toList c.data.toList) K V (.slice o n n) _ (hM.onto hb0) (fun W c t p1 m1 k1 p2 m2 k2 hW => ins1_any key w.heap.size W (keepCell hW hbk) c t p1 m1 k1 p2 m2 k2))
  have HP0 : Hid (∀ (X : World), Below w.heap.size w X → ∀ j u, [Value.string key, .int .i64 Tx.kd, .int .i64 Tx.nm, .string Tx.st, .slice o1 n1 c1, .slice o2 n2 c2][j]? = some u → (X.alloc (.cells #[.string key, .int .i64 Tx.kd, .int .i64 Tx.nm, .string Tx.st, .slice o1 n1 c1, .slice o2 n2 c2] 69)).cell? (Addr.add ⟨X.heap.size, 0, none⟩ j) = some u) := fun X _ j u hu => new_cells X _ 69 j u hu
  have h1c : ∀ u ∈ [Value.string key, .int .i64 Tx.kd, .int .i64 Tx.nm, .string Tx.st, .slice o1 n1 c1, .slice o2 n2 c2], u.oneCell' = true := by
    intro u hu; simp at hu; rcases hu with rfl | rfl | rfl | rfl | rfl | rfl <;> rfl
  have CE := hid (fun (X : World) (hX : Below w.heap.size w X) => sins_end n o olds [Value.string key, .int .i64 Tx.kd, .int .i64 Tx.nm, .string Tx.st, .slice o1 n1 c1, .slice o2 n2 c2] ⟨X.heap.size, 0, none⟩ (X.alloc (.cells #[.string key, .int .i64 Tx.kd, .int .i64 Tx.nm, .string Tx.st, .slice o1 n1 c1, .slice o2 n2 c2] 69)) hnone hlo (fun b' hb' j u hu => by
    have h0 : 0 < n := by have := lt_of_some hu; omega
    rw [hob h0] at hb'
    injection hb' with hb'
    subst hb'
    rw [add_at]
    exact keepCell (valloc_bel hX _) (holds j u hu)) rfl (HP0.out X hX) h1c hm)
  have CM := hid (fun (X : World) (hX : Below w.heap.size w X) (i : Nat) (hi : i < n) => sins_mid n i b olds [Value.string key, .int .i64 Tx.kd, .int .i64 Tx.nm, .string Tx.st, .slice o1 n1 c1, .slice o2 n2 c2] ⟨X.heap.size, 0, none⟩ (X.alloc (.cells #[.string key, .int .i64 Tx.kd, .int .i64 Tx.nm, .string Tx.st, .slice o1 n1 c1, .slice o2 n2 c2] 69)) hi hlo (fun j u hu => keepCell (valloc_bel hX _) (holds j u hu)) hone rfl (HP0.out X hX) h1c hm)
  have HLO := hid hlo
  have HB0 := hid hb0
  have hB : ∀ j u, [Value.string key, .int .i64 Tx.kd, .int .i64 Tx.nm, .string Tx.st, .slice o1 n1 c1, .slice o2 n2 c2][j]? = some u → (w.alloc (.cells #[.string key, .int .i64 Tx.kd, .int .i64 Tx.nm, .string Tx.st, .slice o1 n1 c1, .slice o2 n2 c2] 69)).cell? ⟨w.heap.size, j, none⟩ = some u := fun j u hu => by
    have := new_cells w [Value.string key, .int .i64 Tx.kd, .int .i64 Tx.nm, .string Tx.st, .slice o1 n1 c1, .slice o2 n2 c2] 69 j u hu
    rwa [add_at] at this
  have HB := hid hB
  have hob' := hid hob
  clear hM hone holds h1c hb0 hbk HP0 hlo hB hnone
  unfold insI
  cases hf : firstI (fun c => ltB key.data.toList c.data.toList) K with
  | none =>
    rw [hf] at CI
    simp only [Option.getD_none]
    have hK2 := hid hK
    have HT := hid (show olds.take (K.length * 6) = olds ∧ olds.drop (K.length * 6) = [] by
      have := HLO.out
      rw [hK]
      exact ⟨List.take_of_length_le (by omega), List.drop_of_length_le (by omega)⟩)
    clear CM hf hob hob' hK
    go_enter Tryz.func67, Tryz.ntmps67
    go_wp2_with fail
    go_at_call 91
    refine CI.out.mono ?_
    rintro e w1 ⟨rfl, hb1⟩
    have q0 := keepCell hb1 (HB.out 0 _ rfl)
    have q1 := keepCell hb1 (HB.out 1 _ rfl)
    have q2 := keepCell hb1 (HB.out 2 _ rfl)
    have q3 := keepCell hb1 (HB.out 3 _ rfl)
    have q4 := keepCell hb1 (HB.out 4 _ rfl)
    have q5 := keepCell hb1 (HB.out 5 _ rfl)
    have HB1 := hid (vonto HB0.out hb1)
    simp only [oI]
    clear hb1 CI HB
    go_wp2_with fail
    go_at_call 94
    refine (CE.out w1 HB1.out).mono ?_
    rintro e w2 ⟨v', rfl, hown, hb2⟩
    have hs1 := HB1.out.size
    have HN := hid (newRow_of (w := w) hown HLO.out rfl (by rw [World.size_alloc]; omega))
    have HB2 := hid (vonto (valloc_bel HB1.out _) hb2)
    obtain ⟨ox, cx, rfl⟩ := own_slice' hown
    clear hown hb2
    go_wp2_with fail
    go_ret
    refine ⟨_, rfl, ?_, HB2.out⟩
    rw [HT.out.1, HT.out.2]
    exact HN.out
  | some j =>
    rw [hf] at CI
    simp only [Option.getD_some]
    obtain ⟨hjK, -⟩ := firstI_lt hf
    have hjn : j < n := by omega
    obtain rfl := hob (by omega)
    clear CE hf hob hob' hK hjK
    have hnn : ¬ ((j : Int) < 0) := by omega
    go_enter Tryz.func67, Tryz.ntmps67
    go_wp2_with fail
    go_at_call 91
    refine CI.out.mono ?_
    rintro e w1 ⟨rfl, hb1⟩
    have q0 := keepCell hb1 (HB.out 0 _ rfl)
    have q1 := keepCell hb1 (HB.out 1 _ rfl)
    have q2 := keepCell hb1 (HB.out 2 _ rfl)
    have q3 := keepCell hb1 (HB.out 3 _ rfl)
    have q4 := keepCell hb1 (HB.out 4 _ rfl)
    have q5 := keepCell hb1 (HB.out 5 _ rfl)
    have HB1 := hid (vonto HB0.out hb1)
    simp only [oI]
    clear hb1 CI HB
    go_wp2_with fail
    go_at_call 94
    refine (CM.out w1 HB1.out j hjn).mono ?_
    rintro e w2 ⟨v', rfl, ⟨g, cap, rfl, h1, h2, h3, h4, h5⟩, hb2⟩
    have hs1 := HB1.out.size
    rw [World.size_alloc] at h1
    have HN := hid (show NewRow w w2 (n + 1) (.slice (some ⟨g, 0, none⟩) (n + 1) cap) _ from ⟨g, cap, rfl, by omega, h2, h3, h4, h5⟩)
    have HB2 := hid (vonto (valloc_bel HB1.out _) hb2)
    clear h1 h2 h3 h4 h5 hb2
    go_wp2_with fail
    go_ret
    exact ⟨_, rfl, HN.out, HB2.out⟩
end Go.Proofs.YtjcejjejlekelaaGreatDoor
namespace Go.Proofs.YtjcejjejlekelaaGreatDoor
open Go.RowKit

/-- a map with one pair more -/
def insT (T : VT) (key : ByteArray) (x : VT) : VT := match T with
  | .mk k n st L K V => .mk k n st L (K.take (insI key K) ++ key :: K.drop (insI key K)) (V.take (insI key K) ++ x :: V.drop (insI key K))
theorem insI_le (key : ByteArray) (K : List ByteArray) : insI key K ≤ K.length := by
  unfold insI
  cases h : firstI (fun c => ltB key.data.toList c.data.toList) K with
  | none => exact Nat.le_refl _
  | some j => have := (firstI_lt h).1; simp only [Option.getD_some]; omega
theorem ins_at {α : Type} {L : List α} {x t : α} {j q : Nat} (hj : j ≤ L.length) (h : (L.take j ++ x :: L.drop j)[q]? = some t) : (q < j ∧ L[q]? = some t) ∨ (q = j ∧ t = x) ∨ (j < q ∧ L[q - 1]? = some t) := by
  have hl : (L.take j).length = j := by rw [List.length_take]; omega
  rcases Nat.lt_trichotomy q j with h1 | h1 | h1
  · rw [List.getElem?_append_left (by omega), List.getElem?_take, if_pos h1] at h
    exact .inl ⟨h1, h⟩
  · rw [List.getElem?_append_right (by omega), hl, h1, Nat.sub_self] at h
    simp at h
    exact .inr (.inl ⟨h1, h.symm⟩)
  · rw [List.getElem?_append_right (by omega), hl, show q - j = (q - 1 - j) + 1 by omega, List.getElem?_cons_succ, List.getElem?_drop, show j + (q - 1 - j) = q - 1 by omega] at h
    exact .inr (.inr ⟨h1, h⟩)
/-- pairs with one more -/
theorem ms_ins {w w' : World} {lo hi b g cap n : Nat} {K : List ByteArray} {V : List VT} {o : Option Addr} {S : Nat → Prop} (h : MF w lo hi K V (.slice o n n)) (hob : 0 < n → o = some ⟨b, 0, none⟩) (hS : ∀ k, lo ≤ k → k < hi → S k) (hSg : S g) (hc1 : n + 1 ≤ cap) (hc2 : cap ≤ maxLen)
    (olds : List Value) (hlo : olds.length = n * 6) (holds : ∀ j u, olds[j]? = some u → w.cell? ⟨b, j, none⟩ = some u) (key : ByteArray) (hkey : key.size ≤ maxLen) (Tx : VT) (X Y : Value) (hx : HS w' S Tx X Y)
    (hnew : ∀ q u, (olds.take (insI key K * 6) ++ ([Value.string key, .int .i64 Tx.kd, .int .i64 Tx.nm, .string Tx.st, X, Y] ++ olds.drop (insI key K * 6)))[q]? = some u → w'.cell? ⟨g, q, none⟩ = some u)
    (hfar : ∀ k, lo ≤ k → k < hi → w'.heap[k]? = w.heap[k]?) : MS w' S (K.take (insI key K) ++ key :: K.drop (insI key K)) (V.take (insI key K) ++ Tx :: V.drop (insI key K)) (.slice (some ⟨g, 0, none⟩) (n + 1) cap) := by
  obtain ⟨b', l, f, g', ⟨o', hxe, hmax, ho⟩, hK, h2, h3, hc, h4, h5⟩ := h
  injection hxe with e1 e2 e3
  subst e1 e2
  have hj := insI_le key K
  generalize insI key K = j at *
  have hbb : 0 < V.length → b' = b := fun h0 => by
    have q1 := hob h0
    have q2 := (ho h0).1
    rw [q1] at q2
    injection q2 with q2
    injection q2 with q2
    exact q2.symm
  have hlt : (olds.take (j * 6)).length = j * 6 := by rw [List.length_take]; omega
  -- an old cell, ahead or behind
  have oldc : ∀ q c u, q < V.length → c < 6 → w.cell? ⟨b, q * 6 + c, none⟩ = some u → w'.cell? ⟨g, (if q < j then q else q + 1) * 6 + c, none⟩ = some u := fun q c u hq hc6 hu => by
    obtain ⟨u', hu'⟩ : ∃ u', olds[q * 6 + c]? = some u' := ⟨olds[q * 6 + c]'(by omega), List.getElem?_eq_getElem _⟩
    have q1 := holds _ _ hu'
    rw [hu] at q1
    injection q1 with q1
    subst q1
    by_cases hqj : q < j
    · rw [if_pos hqj]
      refine hnew _ _ ?_
      rw [List.getElem?_append_left (by omega), List.getElem?_take, if_pos (by omega)]; exact hu'
    · rw [if_neg hqj]
      refine hnew _ _ ?_
      rw [List.getElem?_append_right (by omega), hlt, List.getElem?_append_right (by simp; omega), List.getElem?_drop]
      rw [show j * 6 + ((q + 1) * 6 + c - j * 6 - [Value.string key, .int .i64 Tx.kd, .int .i64 Tx.nm, .string Tx.st, X, Y].length) = q * 6 + c by simp; omega]; exact hu'
  have newc : ∀ c u, [Value.string key, .int .i64 Tx.kd, .int .i64 Tx.nm, .string Tx.st, X, Y][c]? = some u → w'.cell? ⟨g, j * 6 + c, none⟩ = some u := fun c u hu => by
    have hcl := lt_of_some hu
    refine hnew _ _ ?_
    rw [List.getElem?_append_right (by omega), hlt, Nat.add_sub_cancel_left, List.getElem?_append_left hcl]; exact hu
  have nxa : ∀ q, nx (Addr.add ⟨g, 0, none⟩ (q * 6)) = ⟨g, q * 6 + 1, none⟩ := fun q => by rw [add_at]; rfl
  have nodes : ∀ q t, V[q]? = some t → Node w' ⟨g, (if q < j then q else q + 1) * 6 + 1, none⟩ t (f q) (g' q) := fun q t ht => by
    have hq := lt_of_some ht
    have h9 := h4 q t ht
    obtain rfl := hbb (by omega)
    rw [show nx (Addr.add ⟨b', 0, none⟩ (q * 6)) = ⟨b', q * 6 + 1, none⟩ by rw [add_at]; rfl] at h9
    obtain ⟨d0, d1, d2, d3, d4⟩ := h9
    exact ⟨oldc q 1 _ hq (by decide) d0, oldc q 2 _ hq (by decide) d1, oldc q 3 _ hq (by decide) d2, oldc q 4 _ hq (by decide) d3, oldc q 5 _ hq (by decide) d4⟩
  have sub : ∀ q t, V[q]? = some t → HS w' S t (f q) (g' q) := fun q t ht => by
    have hq := lt_of_some ht
    have g0 := h2 (by omega)
    have e2 := h3 0 q (Nat.zero_le _) (by omega); have e3 := h3 (q + 1) _ hq (Nat.le_refl _)
    exact ((h5 q t ht).onto (w' := w') (fun k k1 k2 => hfar k (by omega) (by omega))).hs.onto (fun _ _ => rfl) (fun k hk => hS k (by omega) (by omega))
  have hlen : (V.take j ++ Tx :: V.drop j).length = V.length + 1 := by
    rw [List.length_append, List.length_cons, List.length_take, List.length_drop]; omega
  refine ⟨⟨g, 0, none⟩, fun q => if q < j then f q else if q = j then X else f (q - 1), fun q => if q < j then g' q else if q = j then Y else g' (q - 1), ⟨_, _, by rw [hlen], by rw [hlen]; exact hc1, hc2, fun _ => rfl⟩, ?_, fun _ => hSg, fun q u hu => ?_, fun q t ht => ?_, fun q t ht => ?_⟩
  · rw [hlen, List.length_append, List.length_cons, List.length_take, List.length_drop]; omega
  · rw [add_at]
    rcases ins_at hj hu with ⟨h1, hu⟩ | ⟨rfl, rfl⟩ | ⟨h1, hu⟩
    · have hq := lt_of_some hu
      have h9 := hc q u hu
      obtain rfl := hbb (by omega)
      rw [add_at] at h9
      have := oldc q 0 _ (by omega) (by decide) h9.1
      rw [if_pos h1] at this
      exact ⟨this, h9.2⟩
    · exact ⟨newc 0 _ rfl, hkey⟩
    · have hq := lt_of_some hu
      have h9 := hc (q - 1) u hu
      obtain rfl := hbb (by omega)
      rw [add_at] at h9
      have := oldc (q - 1) 0 _ (by omega) (by decide) h9.1
      rw [if_neg (by omega), show q - 1 + 1 = q by omega] at this
      exact ⟨this, h9.2⟩
  · rw [nxa]
    rcases ins_at (by omega) ht with ⟨h1, ht⟩ | ⟨rfl, rfl⟩ | ⟨h1, ht⟩
    · have := nodes q t ht
      rw [if_pos h1] at this
      simp only [if_pos h1]; exact this
    · simp only [Nat.lt_irrefl, if_false, if_true]
      exact ⟨newc 1 _ rfl, newc 2 _ rfl, newc 3 _ rfl, newc 4 _ rfl, newc 5 _ rfl⟩
    · have := nodes (q - 1) t ht
      rw [if_neg (by omega), show q - 1 + 1 = q by omega] at this
      simp only [if_neg (show ¬ q < j by omega), if_neg (show ¬ q = j by omega)]; exact this
  · rcases ins_at (by omega) ht with ⟨h1, ht⟩ | ⟨rfl, rfl⟩ | ⟨h1, ht⟩
    · simp only [if_pos h1]; exact sub q t ht
    · simp only [Nat.lt_irrefl, if_false, if_true]; exact hx
    · simp only [if_neg (show ¬ q < j by omega), if_neg (show ¬ q = j by omega)]; exact sub (q - 1) t ht
end Go.Proofs.YtjcejjejlekelaaGreatDoor
namespace Go.Proofs.YtjcejjejlekelaaGreatDoor
open Go.RowKit

theorem Hole.moreM {w w9 : World} {lo hi : Nat} {B : Addr} {T0 : VT} {p : List PStep} {a : Addr} {U : VT} {o : Option Addr} {x : Value} {la ha n b : Nat} (h : Hole w lo hi B T0 p a U x (.slice o n n) la ha) (hlo : lo ≤ B.block) (hBs : B.block < w.heap.size) (hhi : hi ≤ w.heap.size)
    {Tx : VT} {X Y : Value} {Sx : Nat → Prop} (hx : HS w Sx Tx X Y) (hSx : ∀ k, Sx k → lo ≤ k ∧ k < w.heap.size ∧ ¬ (lo ≤ k ∧ k < hi) ∧ k ≠ B.block) (hb9 : Below w.heap.size w w9) (hob : 0 < n → o = some ⟨b, 0, none⟩)
    (olds : List Value) (hlen : olds.length = n * 6) (hold : ∀ j u, olds[j]? = some u → w.cell? ⟨b, j, none⟩ = some u) (key : ByteArray) (hkey : key.size ≤ maxLen) {v9 : Value}
    (hnr : NewRow w w9 (n + 1) v9 (olds.take (insI key U.ks * 6) ++ ([Value.string key, .int .i64 Tx.kd, .int .i64 Tx.nm, .string Tx.st, X, Y] ++ olds.drop (insI key U.ks * 6)))) :
    Below lo w (w9.setCell ⟨a.block, a.off + 4, none⟩ v9) ∧ ∃ X' Y', Node (w9.setCell ⟨a.block, a.off + 4, none⟩ v9) B (replP T0 p (insT U key Tx)) X' Y' ∧ HS (w9.setCell ⟨a.block, a.off + 4, none⟩ v9) (fun k => lo ≤ k ∧ k < (w9.setCell ⟨a.block, a.off + 4, none⟩ v9).heap.size) (replP T0 p (insT U key Tx)) X' Y' := by
  obtain ⟨g, cap, rfl, hg, hg9, hc1, hc2, hnew⟩ := hnr
  have hab := h.ablock hlo hBs hhi
  have hw := h.tree.hv.wfs
  have hat := h.at_
  have hin := h.inn
  have hout := h.out
  have hs9 := hb9.size
  have hgne : a.block ≠ g := by omega
  have hne : ∀ k, Sx k → k ≠ a.block := fun k hk e => by
    have h3 := (hSx k hk).2.2
    rcases hat with hh | hh
    · exact h3.2 (by rw [← hh]; exact e)
    · exact h3.1 (by omega)
  have hpla := h.plain
  have hnode := h.node
  have htree := h.tree
  have hback := h.back
  clear h
  have far : ∀ q, q < w.heap.size → q ≠ a.block → (w9.setCell ⟨a.block, a.off + 4, none⟩ (.slice (some ⟨g, 0, none⟩) (n + 1) cap)).heap[q]? = w.heap[q]? := fun q h1 h2 => (Below.heap_setCell _ _ _ _ (show q ≠ (⟨a.block, a.off + 4, none⟩ : Addr).block from h2)).trans (hb9.block q h1)
  have hsz : (w9.setCell ⟨a.block, a.off + 4, none⟩ (.slice (some ⟨g, 0, none⟩) (n + 1) cap)).heap.size = w9.heap.size := by simp
  have hbel : Below lo w (w9.setCell ⟨a.block, a.off + 4, none⟩ (.slice (some ⟨g, 0, none⟩) (n + 1) cap)) := (hb9.mono (by omega)).setCell (p := ⟨a.block, a.off + 4, none⟩) hab.1 _
  have hrow : ∀ q u, w9.cell? ⟨g, q, none⟩ = some u → (w9.setCell ⟨a.block, a.off + 4, none⟩ (.slice (some ⟨g, 0, none⟩) (n + 1) cap)).cell? ⟨g, q, none⟩ = some u := fun q u hu => by rw [set_other _ _ _ _ _ _ (.inl hgne)]; exact hu
  have hnd2 := nd_set4 (hnode.onto hb9) hpla (insT U key Tx) (by cases U; exact ⟨rfl, rfl, rfl⟩) (.slice (some ⟨g, 0, none⟩) (n + 1) cap)
  have hacell : ∀ q, q ≠ a.off + 4 → (w9.setCell ⟨a.block, a.off + 4, none⟩ (.slice (some ⟨g, 0, none⟩) (n + 1) cap)).cell? ⟨a.block, q, none⟩ = w.cell? ⟨a.block, q, none⟩ := fun q hq => by rw [set_other _ _ _ _ _ _ (.inr (Ne.symm hq))]; exact hb9.cell hab.2
  generalize hw' : w9.setCell ⟨a.block, a.off + 4, none⟩ (.slice (some ⟨g, 0, none⟩) (n + 1) cap) = w' at *
  obtain ⟨k, n0, st, L, K, V⟩ := U
  obtain ⟨m, hm1, hm2, hLF, hMF⟩ := htree.lists
  simp only [VT.ls, VT.ks, VT.vs] at hLF hMF hnew
  refine ⟨hbel, hback w' (fun k => lo ≤ k ∧ k < w'.heap.size) _ x (.slice (some ⟨g, 0, none⟩) (n + 1) cap) ⟨fun k h1 h2 h3 h4 => far k (by omega) h3, fun hne => far _ hBs hne, fun q hq => hacell q (by omega)⟩ (fun k h1 h2 => ⟨h1, by omega⟩) hnd2 ?_⟩
  refine hs_of (T := insT (.mk k n0 st L K V) key Tx) hw (show LS _ _ L x from ?_) (show MS _ _ (K.take (insI key K) ++ key :: K.drop (insI key K)) (V.take (insI key K) ++ Tx :: V.drop (insI key K)) _ from ?_)
  · exact hLF.ls.onto (fun k hk => far k (by omega) (fun e => hout (by omega))) (fun k hk => ⟨by omega, by omega⟩)
  · exact ms_ins hMF hob (fun k h1 h2 => ⟨by omega, by omega⟩) ⟨by omega, by omega⟩ hc1 hc2 olds hlen hold key hkey Tx X Y (hx.onto (fun k hk => far k (hSx k hk).2.1 (hne k hk)) (fun k hk => ⟨(hSx k hk).1, by have := (hSx k hk).2.1; omega⟩)) (fun q u hu => hrow q u (hnew q u hu)) (fun k h1 h2 => far k (by omega) (fun e => hout (by omega)))
set_option maxRecDepth 100000 in
set_option maxHeartbeats 2000000 in
theorem put_pair {w : World} {lo hi : Nat} {B : Addr} {T0 : VT} {p : List PStep} {a : Addr} {U : VT} {x y : Value} {la ha : Nat} (h : Hole w lo hi B T0 p a U x y la ha) (hB : ¬ (lo ≤ B.block ∧ B.block < hi)) (hlo : lo ≤ B.block) (hBs : B.block < w.heap.size) (hhi : hi ≤ w.heap.size) (hm : szT U ≤ 1000000) (s : PStep) (hsk : s.key.size ≤ maxLen) {Tx : VT} {X Y : Value} {Sx : Nat → Prop} (hx : HS w Sx Tx X Y) (hSx : ∀ k, Sx k → lo ≤ k ∧ k < w.heap.size ∧ ¬ (lo ≤ k ∧ k < hi) ∧ k ≠ B.block) (hix : idxT U s = none) (hp : s.place = false) (hk6 : U.kd = 6) :
    Calls Tryz.prog 39 #[.pointer (some a), pv s, vv Tx X Y] w fun e w' => e = .returned (.bool true) ∧ Below lo w w' ∧ ∃ X' Y', Node w' B (replP T0 p (insT U s.key Tx)) X' Y' ∧ HS w' (fun k => lo ≤ k ∧ k < w'.heap.size) (replP T0 p (insT U s.key Tx)) X' Y' := by
  have hgp : getP U [s] = none := by simp [getP, hix]
  obtain ⟨o1, n1, c1, o2, n2, c2, rfl, rfl⟩ := hv_slices hx.hv
  obtain ⟨o3, n3, c3, o4, n4, c4, rfl, rfl⟩ := hv_slices h.tree.hv
  have hb0 : Below w.heap.size w (((w.alloc (.cells #[.string s.key, .int .i64 s.at_, .bool s.place] 36)).alloc (.cells #[.int .i64 Tx.kd, .int .i64 Tx.nm, .string Tx.st, .slice o1 n1 c1, .slice o2 n2 c2] 31)).alloc (.cells #[.string s.key, .int .i64 s.at_, .bool s.place] 36)) := valloc_bel (valloc_bel (valloc_bel (Below.refl _ _) _) _) _
  have hin := inp_new ((w.alloc (.cells #[.string s.key, .int .i64 s.at_, .bool s.place] 36)).alloc (.cells #[.int .i64 Tx.kd, .int .i64 Tx.nm, .string Tx.st, .slice o1 n1 c1, .slice o2 n2 c2] 31)) s hsk
  rw [show ((w.alloc (.cells #[.string s.key, .int .i64 s.at_, .bool s.place] 36)).alloc (.cells #[.int .i64 Tx.kd, .int .i64 Tx.nm, .string Tx.st, .slice o1 n1 c1, .slice o2 n2 c2] 31)).heap.size = w.heap.size + 2 by simp] at hin
  have h0 := h.onto hlo hBs hhi hb0
  have CF := hid (find_of (fun q => QH _ lo hi B T0 (p ++ q)) _ (QH.desc2 _ lo hi B T0 p hB) a U _ _ ⟨⟨la, ha, by rw [List.append_nil]; exact h0⟩, hm⟩ [s] _ hin)
  have HB0 := hid hb0
  have HGP := hid hgp
  have h5 : ∀ o u, [Value.int .i64 Tx.kd, .int .i64 Tx.nm, .string Tx.st, .slice o1 n1 c1, .slice o2 n2 c2][o]? = some u → (((w.alloc (.cells #[.string s.key, .int .i64 s.at_, .bool s.place] 36)).alloc (.cells #[.int .i64 Tx.kd, .int .i64 Tx.nm, .string Tx.st, .slice o1 n1 c1, .slice o2 n2 c2] 31)).alloc (.cells #[.string s.key, .int .i64 s.at_, .bool s.place] 36)).cell? ⟨w.heap.size + 1, o, none⟩ = some u := fun o u hu => by
    have h1 := new_cells (w.alloc (.cells #[.string s.key, .int .i64 s.at_, .bool s.place] 36)) [Value.int .i64 Tx.kd, .int .i64 Tx.nm, .string Tx.st, .slice o1 n1 c1, .slice o2 n2 c2] 31 o u hu
    rw [World.size_alloc, add_at] at h1
    exact keepCell (valloc_bel (Below.refl _ _) _) h1
  have h3 : ∀ o u, [Value.string s.key, .int .i64 s.at_, .bool s.place][o]? = some u → (((w.alloc (.cells #[.string s.key, .int .i64 s.at_, .bool s.place] 36)).alloc (.cells #[.int .i64 Tx.kd, .int .i64 Tx.nm, .string Tx.st, .slice o1 n1 c1, .slice o2 n2 c2] 31)).alloc (.cells #[.string s.key, .int .i64 s.at_, .bool s.place] 36)).cell? ⟨w.heap.size, o, none⟩ = some u := fun o u hu => by
    have h1 := new_cells w [Value.string s.key, .int .i64 s.at_, .bool s.place] 36 o u hu
    rw [add_at] at h1
    exact keepCell (valloc_bel (valloc_bel (Below.refl _ _) _) _) h1
  have H5 := hid h5
  have H3 := hid h3
  have HN := hid h.node
  have HSX := hid hSx
  have HX := hid hx
  have HH := hid h
  have hlU := szT_len U
  obtain ⟨m, -, -, -, hMF⟩ := h.tree.lists
  obtain ⟨e1, e2, hnone, b, olds, hob, hlo', hone, holds⟩ := row_olds6 hMF
  have e2' := e2.symm
  clear e2
  subst e2'
  have hinm := hMF.inM
  have CI := hid (fun (X : World) (hX : Below w.heap.size w X) => insert_any U.ks U.vs o4 n4 b olds X (hinm.onto hX) e1 hnone hob hlo' hone (fun j u hu => keepCell hX (holds j u hu)) (by omega) s.key Tx o1 n1 c1 o2 n2 c2)
  have HE := hid (fun (w9 : World) (hb9 : Below w.heap.size w w9) (v9 : Value) (hnr : NewRow w w9 (n4 + 1) v9 _) => h.moreM hlo hBs hhi hx hSx hb9 hob olds hlo' holds s.key hsk hnr)
  have hsoft := h.soft
  have hab := h.ablock hlo hBs hhi
  clear h h0 hx hSx hMF hinm hob hone holds hnone hlo' e1 hb0 hin hgp h5 h3 hix
  obtain ⟨key, at_, pl⟩ := s
  simp only [vv, pv]
  simp only at CF HB0 H5 H3 hp CI HE
  subst hp
  go_enter Tryz.func39, Tryz.ntmps39
  go_wp2_with fail
  go_at_call 37
  refine CF.out.mono ?_
  rintro e w1 ⟨hc, hb1⟩
  rcases hc with ⟨-, rfl⟩ | ⟨a', U', x', y', ⟨⟨la', ha', hh⟩, -⟩, hg, -⟩
  rotate_left
  · rw [HGP.out] at hg; cases hg
  dsimp only
  have HB1 := hid (vonto HB0.out hb1)
  obtain ⟨d0, d1, d2, d3, d4⟩ := HN.out.onto HB1.out
  have v0 := keepCell hb1 (H5.out 0 _ rfl)
  have v1 := keepCell hb1 (H5.out 1 _ rfl)
  have v2 := keepCell hb1 (H5.out 2 _ rfl)
  have v3 := keepCell hb1 (H5.out 3 _ rfl)
  have v4 := keepCell hb1 (H5.out 4 _ rfl)
  have b0 := keepCell hb1 (H3.out 0 _ rfl)
  have b1 := keepCell hb1 (H3.out 1 _ rfl)
  have b2 := keepCell hb1 (H3.out 2 _ rfl)
  clear hb1 CF H5 H3 HGP HN
  have t6 : (U.kd == 6) = true := by simpa using hk6
  clear hk6
  go_wp2_with fail
  go_region
  go_wp2_with fail
  refine wp_region_ends2 (S := fun X => X.cell? ⟨a.block, a.off + 4, none⟩ = some (.slice o4 n4 n4) ∧ X.cell? ⟨w.heap.size, 0, none⟩ = some (.string key) ∧ X.cell? ⟨w.heap.size + 1, 0, none⟩ = some (.int .i64 Tx.kd) ∧ X.cell? ⟨w.heap.size + 1, 1, none⟩ = some (.int .i64 Tx.nm) ∧ X.cell? ⟨w.heap.size + 1, 2, none⟩ = some (.string Tx.st) ∧ X.cell? ⟨w.heap.size + 1, 3, none⟩ = some (.slice o1 n1 c1) ∧ X.cell? ⟨w.heap.size + 1, 4, none⟩ = some (.slice o2 n2 c2)) (by simp) (by kernel_rfl) (by kernel_rfl) (by kernel_rfl) (by kernel_rfl) (by kernel_rfl) (by kernel_rfl) ?_
  simp only [List.dropLast, List.getLast_cons_cons, List.getLast_singleton, List.length_cons, List.length_nil]
  have hS0 : w1.drew.drew.cell? ⟨a.block, a.off + 4, none⟩ = some (.slice o4 n4 n4) ∧ w1.drew.drew.cell? ⟨w.heap.size, 0, none⟩ = some (.string key) ∧ w1.drew.drew.cell? ⟨w.heap.size + 1, 0, none⟩ = some (.int .i64 Tx.kd) ∧ w1.drew.drew.cell? ⟨w.heap.size + 1, 1, none⟩ = some (.int .i64 Tx.nm) ∧ w1.drew.drew.cell? ⟨w.heap.size + 1, 2, none⟩ = some (.string Tx.st) ∧ w1.drew.drew.cell? ⟨w.heap.size + 1, 3, none⟩ = some (.slice o1 n1 c1) ∧ w1.drew.drew.cell? ⟨w.heap.size + 1, 4, none⟩ = some (.slice o2 n2 c2) := ⟨d4, b0, v0, v1, v2, v3, v4⟩
  refine take_h (i := 0) (v := ?_) rfl (by kernel_rfl) (by kernel_rfl) (by kernel_rfl) (fun _ _ _ h => h) (by rfl) ?_ hS0 ?_
  rotate_left
  · (intro X hX; go_simp; try with_reducible rfl)
  simp only [Act.put, List.setIfInBounds_toArray, List.set_cons_zero, List.set_cons_succ]
  refine take_h (i := 1) (v := ?_) rfl (by kernel_rfl) (by kernel_rfl) (by kernel_rfl) (fun _ _ _ h => h) (by rfl) ?_ hS0 ?_
  rotate_left
  · (intro X hX; go_simp; try with_reducible rfl)
  simp only [Act.put, List.setIfInBounds_toArray, List.set_cons_zero, List.set_cons_succ]
  refine take_h (i := 2) (v := ?_) rfl (by kernel_rfl) (by kernel_rfl) (by kernel_rfl) (fun _ _ _ h => h) (by rfl) ?_ hS0 ?_
  rotate_left
  · (intro X hX; go_simp; try with_reducible rfl)
  simp only [Act.put, List.setIfInBounds_toArray, List.set_cons_zero, List.set_cons_succ]
  refine take_h (i := 3) (v := ?_) rfl (by kernel_rfl) (by kernel_rfl) (by kernel_rfl) (fun _ _ _ h => h) (by rfl) ?_ hS0 ?_
  rotate_left
  · (intro X hX; go_simp; try with_reducible rfl)
  simp only [Act.put, List.setIfInBounds_toArray, List.set_cons_zero, List.set_cons_succ]
  refine take_h (i := 4) (v := ?_) rfl (by kernel_rfl) (by kernel_rfl) (by kernel_rfl) (fun _ _ _ h => h) (by rfl) ?_ hS0 ?_
  rotate_left
  · (intro X hX; go_simp; try with_reducible rfl)
  simp only [Act.put, List.setIfInBounds_toArray, List.set_cons_zero, List.set_cons_succ]
  refine take_h (i := 5) (v := ?_) rfl (by kernel_rfl) (by kernel_rfl) (by kernel_rfl) (fun _ _ _ h => h) (by rfl) ?_ hS0 ?_
  rotate_left
  · (intro X hX; go_simp; try with_reducible rfl)
  simp only [Act.put, List.setIfInBounds_toArray, List.set_cons_zero, List.set_cons_succ]
  refine take_h (i := 6) (v := ?_) rfl (by kernel_rfl) (by kernel_rfl) (by kernel_rfl) (fun _ _ _ h => h) (by rfl) ?_ hS0 ?_
  rotate_left
  · (intro X hX; go_simp; try with_reducible rfl)
  simp only [Act.put, List.setIfInBounds_toArray, List.set_cons_zero, List.set_cons_succ]
  refine take_h (i := 7) (v := ?_) rfl (by kernel_rfl) (by kernel_rfl) (by kernel_rfl) (fun _ _ _ h => h) (by rfl) ?_ hS0 ?_
  rotate_left
  · (intro X hX; go_simp; try with_reducible rfl)
  simp only [Act.put, List.setIfInBounds_toArray, List.set_cons_zero, List.set_cons_succ]
  refine take_h (i := 8) (v := ?_) rfl (by kernel_rfl) (by kernel_rfl) (by kernel_rfl) (fun _ _ _ h => h) (by rfl) ?_ hS0 ?_
  rotate_left
  · (intro X hX; go_simp; try with_reducible rfl)
  simp only [Act.put, List.setIfInBounds_toArray, List.set_cons_zero, List.set_cons_succ]
  refine step_h (i := 9) rfl (by kernel_rfl) ?_
  intro KK hKK
  have HC := hid (CI.out w1.drew.drew HB1.out.drew.drew)
  go_simp
  go_wp2_with (go_at_call 67; go_must (refine HC.out.mono ?_; rintro e w9 ⟨v9, rfl, hnr, hb9⟩))
  have hbA : Below w1.heap.size w1 w9 := (Below.refl w1.heap.size w1).drew.drew.trans hb9
  have hbW := vonto HB1.out hbA
  have hs1 := HB1.out.size
  obtain ⟨g, cap, rfl, hg, hrest⟩ := hnr
  have hg' : w.heap.size ≤ g := Nat.le_trans hs1 hg
  have HEE := hid (HE.out w9 hbW _ ⟨g, cap, rfl, hg', hrest⟩)
  refine hKK.out _ _ ⟨keepCell hbA d4, keepCell hbA b0, keepCell hbA v0, keepCell hbA v1, keepCell hbA v2, keepCell hbA v3, keepCell hbA v4⟩ (fun hS1 => ?_)
  clear hKK KK hS0
  refine take_h (i := 10) (v := ?_) rfl (by kernel_rfl) (by kernel_rfl) (by kernel_rfl) (fun _ _ _ h => h) (by rfl) ?_ hS1 ?_
  rotate_left
  · (intro X hX; go_simp; try with_reducible rfl)
  simp only [Act.put, List.setIfInBounds_toArray, List.set_cons_zero, List.set_cons_succ]
  refine take_h (i := 11) (v := ?_) rfl (by kernel_rfl) (by kernel_rfl) (by kernel_rfl) (fun _ _ _ h => h) (by rfl) ?_ hS1 ?_
  rotate_left
  · (intro X hX; go_simp; try with_reducible rfl)
  simp only [Act.put, List.setIfInBounds_toArray, List.set_cons_zero, List.set_cons_succ]
  refine wpAnyH_done (by kernel_rfl) ?_ _
  change Oper.wp _ _ _ _ _ _
  have x4 := hS1.1
  have xf : w9.frozen? ⟨a.block, a.off + 4, none⟩ = false := by
    have := hsoft (a.off + 4)
    have e1 : w9.heap[a.block]? = w.heap[a.block]? := hbW.block _ hab.2
    simpa [World.frozen?, e1] using this
  clear hS1 hbA hbW hrest hb9 hg HC CI HE HX HSX HH
  go_simp
  go_wp2_with fail
  go_ret
  exact ⟨rfl, HEE.out⟩
end Go.Proofs.YtjcejjejlekelaaGreatDoor
namespace Go.Proofs.YtjcejjejlekelaaGreatDoor
open Go.RowKit

/-- a node with something put where a step leads -/
def putT (U : VT) (s : PStep) (x : VT) : Option VT := match idxT U s with
  | some i => some (repT U s i x)
  | none => if s.place = true then (if U.kd = 5 ∧ s.at_ = U.ls.length then some (addT U x) else none) else (if U.kd = 6 then some (insT U s.key x) else none)
theorem put_any {w : World} {lo hi : Nat} {B : Addr} {T0 : VT} {p : List PStep} {a : Addr} {U : VT} {x y : Value} {la ha : Nat} (h : Hole w lo hi B T0 p a U x y la ha) (hB : ¬ (lo ≤ B.block ∧ B.block < hi)) (hlo : lo ≤ B.block) (hBs : B.block < w.heap.size) (hhi : hi ≤ w.heap.size) (hm : szT U ≤ 1000000) (s : PStep) (hsk : s.key.size ≤ maxLen) {Tx : VT} {X Y : Value} {Sx : Nat → Prop} (hx : HS w Sx Tx X Y) (hSx : ∀ k, Sx k → lo ≤ k ∧ k < w.heap.size ∧ ¬ (lo ≤ k ∧ k < hi) ∧ k ≠ B.block) :
    Calls Tryz.prog 39 #[.pointer (some a), pv s, vv Tx X Y] w fun e w' => e = .returned (.bool (putT U s Tx).isSome) ∧ Below lo w w' ∧ (putT U s Tx = none ∨ ∃ R X' Y', putT U s Tx = some R ∧ Node w' B (replP T0 p R) X' Y' ∧ HS w' (fun k => lo ≤ k ∧ k < w'.heap.size) (replP T0 p R) X' Y') := by
  cases hix : idxT U s with
  | some i =>
    have e1 : putT U s Tx = some (repT U s i Tx) := by unfold putT; rw [hix]
    refine Calls.mono (put_there h hB hlo hBs hhi hm s hsk hx hSx i hix) ?_
    rintro e w' ⟨rfl, h1, X', Y', h2, h3⟩
    exact ⟨by rw [e1]; rfl, h1, .inr ⟨_, X', Y', e1, h2, h3⟩⟩
  | none =>
    by_cases hp : s.place = true
    · by_cases hc : U.kd = 5 ∧ s.at_ = U.ls.length
      · have e1 : putT U s Tx = some (addT U Tx) := by unfold putT; rw [hix]; simp only; rw [if_pos hp, if_pos hc]
        refine Calls.mono (put_last h hB hlo hBs hhi hm s hsk hx hSx hix hp hc.1 hc.2) ?_
        rintro e w' ⟨rfl, h1, X', Y', h2, h3⟩
        exact ⟨by rw [e1]; rfl, h1, .inr ⟨_, X', Y', e1, h2, h3⟩⟩
      · have e1 : putT U s Tx = none := by unfold putT; rw [hix]; simp only; rw [if_pos hp, if_neg hc]
        refine Calls.mono (put_no h hB hlo hBs hhi hm s hsk hx.hv hix (fun h => hc h.2) (fun h => by rw [hp] at h; cases h.1)) ?_
        rintro e w' ⟨rfl, h1⟩
        exact ⟨by rw [e1]; rfl, h1.mono (by omega), .inl e1⟩
    · have hp' : s.place = false := by simpa using hp
      by_cases hc : U.kd = 6
      · have e1 : putT U s Tx = some (insT U s.key Tx) := by unfold putT; rw [hix]; simp only; rw [if_neg hp, if_pos hc]
        refine Calls.mono (put_pair h hB hlo hBs hhi hm s hsk hx hSx hix hp' hc) ?_
        rintro e w' ⟨rfl, h1, X', Y', h2, h3⟩
        exact ⟨by rw [e1]; rfl, h1, .inr ⟨_, X', Y', e1, h2, h3⟩⟩
      · have e1 : putT U s Tx = none := by unfold putT; rw [hix]; simp only; rw [if_neg hp, if_neg hc]
        refine Calls.mono (put_no h hB hlo hBs hhi hm s hsk hx.hv hix (fun h => hp h.1) (fun h => hc h.2)) ?_
        rintro e w' ⟨rfl, h1⟩
        exact ⟨by rw [e1]; rfl, h1.mono (by omega), .inl e1⟩
end Go.Proofs.YtjcejjejlekelaaGreatDoor
