import Derived.Test.YteimbjamnfkapaaGreatDoorGMathUj
import Derived.Test.YteimbjamnfkapaaGreatDoorGRefDecE
/- UnflatGaps: a table of one row, being laid. -/
namespace Go.Proofs.YteimbjamnfkapaaGreatDoor
open Go.RowKit
theorem mkS_appU (a b : List UInt8) : mkS a ++ mkS b = mkS (a ++ b) := mkS_of _ _ (by rw [ByteArray.data_append, Array.toList_append, mkS_list, mkS_list])
theorem Tryz.infoStrU : (Tryz.prog.info? 9).map (fun i => (i.zero, i.size, i.bytes)) = some (some (.string ⟨#[]⟩), 1, 16) := by kernel_rfl
structure GS (W0 w : World) (ob tb : Nat) (hv rv : Value) (K R : List ByteArray) : Prop where
 hd : w.ownsRow W0.heap.size 9 1 hv K.length (K.map Value.string)
 rw : w.ownsRow W0.heap.size 9 1 rv R.length (R.map Value.string)
 bx : w.heap[tb]? = some (.cells #[hv, .slice (some ⟨ob, 0, none⟩) 1 1] 34 (0, 0))
 ou : w.heap[ob]? = some (.cells #[rv] 22 (0, 0))
 ap : ∀ q, hv.ownBlock = some q → rv.ownBlock ≠ some q
 bel : Below W0.heap.size W0 w
 lo : W0.heap.size ≤ ob ∧ W0.heap.size ≤ tb
theorem lt_heap {w : World} {b : Nat} {o : Obj} (h : w.heap[b]? = some o) : b < w.heap.size := by
 rcases Nat.lt_or_ge b w.heap.size with h1 | h1
 ·exact h1
 ·rw [Array.getElem?_eq_none h1] at h; cases h
theorem GS.onto {W0 w w' : World} {ob tb : Nat} {hv rv : Value} {K R : List ByteArray} (h : GS W0 w ob tb hv rv K R) (hb : Below w.heap.size w w') : GS W0 w' ob tb hv rv K R :=
 ⟨ownsRow_below h.hd hb, ownsRow_below h.rw hb, (hb.block _ (lt_heap h.bx)).trans h.bx, (hb.block _ (lt_heap h.ou)).trans h.ou, h.ap, vonto h.bel hb, h.lo⟩
theorem GS.ne {W0 w : World} {ob tb : Nat} {hv rv : Value} {K R : List ByteArray} (h : GS W0 w ob tb hv rv K R) : ¬ ob = tb := fun e => by
 have h1 := h.bx
 have h2 := h.ou
 rw [e, h1] at h2
 simp at h2
theorem GS.cells {W0 w : World} {ob tb : Nat} {hv rv : Value} {K R : List ByteArray} (h : GS W0 w ob tb hv rv K R) :
  w.cell? ⟨tb, 0, none⟩ = some hv ∧ w.cell? ⟨tb, 1, none⟩ = some (.slice (some ⟨ob, 0, none⟩) 1 1) ∧ w.cell? ⟨ob, 0, none⟩ = some rv ∧ w.frozen? ⟨tb, 0, none⟩ = false ∧ w.frozen? ⟨ob, 0, none⟩ = false := by
 refine ⟨by rw [cell_of_row w tb 0 _ _ _ h.bx]; rfl, by rw [cell_of_row w tb 1 _ _ _ h.bx]; rfl, by rw [cell_of_row w ob 0 _ _ _ h.ou]; rfl, by simp [World.frozen?, h.bx], by simp [World.frozen?, h.ou]⟩
theorem GS.head {W0 w Y : World} {ob tb : Nat} {hv rv hv' : Value} {K R : List ByteArray} (h : GS W0 w ob tb hv rv K R) (c : ByteArray) (h1 : Y.ownsRow W0.heap.size 9 1 hv' (K.length + 1) (K.map Value.string ++ [.string c])) (h2 : w.grownBy Y hv.ownBlock) (h3 : ∀ q, hv'.ownBlock = some q → hv.ownBlock = some q ∨ q = w.heap.size) :
  GS W0 (Y.setCell ⟨tb, 0, none⟩ hv') ob tb hv' rv (K ++ [c]) R := by
 have b1 : Y.heap[tb]? = some (.cells #[hv, .slice (some ⟨ob, 0, none⟩) 1 1] 34 (0, 0)) := (h2.block tb (lt_heap h.bx) (off_ne (own_off h.hd h.bx (by decide)))).trans h.bx
 have b2 : Y.heap[ob]? = some (.cells #[rv] 22 (0, 0)) := (h2.block ob (lt_heap h.ou) (off_ne (own_off h.hd h.ou (by decide)))).trans h.ou
 have g := set_grownW Y tb 0 hv'
 have r1 : Y.ownsRow W0.heap.size 9 1 rv R.length (R.map Value.string) := h.rw.kept h2 (by
  cases hr : rv.ownBlock with
  | none => exact .inl rfl
  | some q => refine .inr fun e => h.ap q e.symm hr)
 have hh : hv'.ownBlock = none ∨ hv'.ownBlock ≠ some tb := own_off h1 b1 (by decide)
 have hr : rv.ownBlock = none ∨ rv.ownBlock ≠ some tb := own_off r1 b1 (by decide)
 refine ⟨by rw [List.length_append, List.map_append]; exact h1.kept g hh, r1.kept g hr, lbox_set b1 0 hv', (g.block ob (lt_heap b2) (fun e => h.ne (by injection e))).trans b2, fun q hq hrq => ?_, ?_, h.lo⟩
 ·rcases h3 q hq with h4 | h4
  ·exact h.ap q h4 hrq
  ·have := (h.rw.lt q hrq).2; omega
 ·exact (h.bel.grown h2 (by have := h.bel.size; omega) (fun q hq => (h.hd.lt q hq).1)).grown g (by have := h.bel.size; have := h2.size; omega) (fun q hq => by injection hq with hq; have := h.lo.2; omega)
theorem GS.row {W0 w Y : World} {ob tb : Nat} {hv rv rv' : Value} {K R : List ByteArray} (h : GS W0 w ob tb hv rv K R) (c : ByteArray) (h1 : Y.ownsRow W0.heap.size 9 1 rv' (R.length + 1) (R.map Value.string ++ [.string c])) (h2 : w.grownBy Y rv.ownBlock) (h3 : ∀ q, rv'.ownBlock = some q → rv.ownBlock = some q ∨ q = w.heap.size) :
  GS W0 (Y.setCell ⟨ob, 0, none⟩ rv') ob tb hv rv' K (R ++ [c]) := by
 have b1 : Y.heap[tb]? = some (.cells #[hv, .slice (some ⟨ob, 0, none⟩) 1 1] 34 (0, 0)) := (h2.block tb (lt_heap h.bx) (off_ne (own_off h.rw h.bx (by decide)))).trans h.bx
 have b2 : Y.heap[ob]? = some (.cells #[rv] 22 (0, 0)) := (h2.block ob (lt_heap h.ou) (off_ne (own_off h.rw h.ou (by decide)))).trans h.ou
 have g := set_grownW Y ob 0 rv'
 have r1 : Y.ownsRow W0.heap.size 9 1 hv K.length (K.map Value.string) := h.hd.kept h2 (by
  cases hr : hv.ownBlock with
  | none => exact .inl rfl
  | some q => refine .inr fun e => h.ap q hr e.symm)
 have hh : rv'.ownBlock = none ∨ rv'.ownBlock ≠ some ob := own_off h1 b2 (by decide)
 have hr : hv.ownBlock = none ∨ hv.ownBlock ≠ some ob := own_off r1 b2 (by decide)
 refine ⟨r1.kept g hr, by rw [List.length_append, List.map_append]; exact h1.kept g hh, (g.block tb (lt_heap b1) (fun e => h.ne (by injection e with e; exact e.symm))).trans b1, lbox_set b2 0 rv', fun q hq hrq => ?_, ?_, h.lo⟩
 ·rcases h3 q hrq with h4 | h4
  ·exact h.ap q hq h4
  ·have := (h.hd.lt q hq).2; omega
 ·exact (h.bel.grown h2 (by have := h.bel.size; omega) (fun q hq => (h.rw.lt q hq).1)).grown g (by have := h.bel.size; have := h2.size; omega) (fun q hq => by injection hq with hq; have := h.lo.1; omega)
theorem gk_more (j : Nat) : gK j ++ [gN j] = gK (j + 1) := by unfold gK; rw [List.range_succ, List.map_append]; rfl
theorem gr_more (j : Nat) (o : Int) : gR j o ++ [gCl o j] = gR (j + 1) o := by unfold gR; rw [List.range_succ, List.map_append]; rfl
theorem gn_txt (j : Nat) : (⟨#[108, 47]⟩ : ByteArray) ++ mkS (txt (j : Int)) = gN j := by
 rw [show (⟨#[108, 47]⟩ : ByteArray) = mkS [108, 47] from rfl, mkS_appU]
 unfold gN
 rw [itoa_txt]; rfl
theorem gn_size (j : Nat) (h : j ≤ 1000) : (gN j).size ≤ 100 := by
 rw [← gn_txt, ByteArray.size_append, mkS_size]
 have := txt_short (j : Int) (by omega)
 have h2 : (⟨#[108, 47]⟩ : ByteArray).size = 2 := rfl
 omega
theorem gcl_size (o : Int) (j : Nat) : (gCl o j).size ≤ 1 := by
 unfold gCl
 split
 ·exact Nat.zero_le _
 ·exact Nat.le_refl _
theorem gk_pk {n : Nat} (h : n ≤ 40) : PkN (gK n) := fun c hc p hp => by
 obtain ⟨i, hi, rfl⟩ := List.mem_map.1 hc
 have hi := List.mem_range.1 hi
 have hs := gn_size i (by omega)
 rw [gp_prs i (by omega)] at hp
 injection hp with hp
 subst hp
 refine ⟨by show 2 ≤ 1000; decide, fun s hs' => ?_⟩
 exact (prs_small (gp_prs i (by omega)) (by omega)).2 s hs'
theorem g_unflat {n : Nat} {o : Int} {k : Int} {r c : Nat} {T : VT} (u : UP (gK n) [gR n o] k r c T) (hn : n ≤ 40) {W0 w : World} {ob tb : Nat} {hv rv : Value} (h : GS W0 w ob tb hv rv (gK n) (gR n o)) (hg : GlobF w) :
  Calls Tryz.prog 14 #[.agg #[hv, .slice (some ⟨ob, 0, none⟩) 1 1]] w fun e w' => ∃ x y, e = .returned (.tuple #[vv T x y, .int .i64 k, .int .i64 ((r : Nat) : Int), .int .i64 ((c : Nat) : Int)]) ∧ HV w' T x y ∧ Below w.heap.size w w' := by
 have e1 : (gK n).length = n := by simp [gK]
 have e2 : (gR n o).length = n := by simp [gR]
 have s1 : ∀ c ∈ gK n, c.size ≤ 100 := fun c hc => by
  obtain ⟨i, hi, rfl⟩ := List.mem_map.1 hc
  have := List.mem_range.1 hi
  exact gn_size i (by omega)
 have s2 : ∀ c ∈ gR n o, c.size ≤ 1 := fun c hc => by
  obtain ⟨i, hi, rfl⟩ := List.mem_map.1 hc
  exact gcl_size o i
 refine unflat_is u _ _ w (stro_ins h.hd (fun c hc => by have := s1 c hc; unfold maxLen; omega)) (inrs_rows h.ou (stro_ins h.rw (fun c hc => by have := s2 c hc; unfold maxLen; omega))) hg (by omega) (fun c hc => by have := s1 c hc; omega) (Nat.succ_le_succ (Nat.zero_le _)) (fun R hR c hc => ?_) (gk_pk hn)
 rw [List.mem_singleton.1 hR] at hc
 have := s2 c hc; omega
set_option maxRecDepth 100000 in
set_option maxHeartbeats 1000000 in
theorem Tryz.unflatGaps_walk (n o : Int) (w0 : (Lit.int .i64 n).wf = true) (w1 : (Lit.int .i64 o).wf = true) (w : World) (hg : GlobF w) :
  Calls Tryz.prog 7 #[.int .i64 n, .int .i64 o] w fun e w' => e = .returned (.bool true) ∧ Below w.heap.size w w' := by
 have bn := nwf_bd w0
 have bo := nwf_bd w1
 have HG := hid hg
 have HA := hid (awake17 w hg)
 clear hg w0 w1
 go_enter Tryz.func7, Tryz.ntmps7
 go_wp2_with fail
 go_at_call 13
 refine HA.out.mono ?_
 rintro e w1 ⟨rfl, hb1⟩
 have HB1 := hid hb1
 clear hb1 HA
 by_cases h1 : n < 1
 ·go_wp2_with fail
  go_ret
  exact ⟨rfl, HB1.out⟩
 by_cases h2 : 40 < n
 ·go_wp2_with fail
  go_ret
  exact ⟨rfl, HB1.out⟩
 by_cases h3 : o < 0
 ·go_wp2_with fail
  go_ret
  exact ⟨rfl, HB1.out⟩
 obtain ⟨N, rfl⟩ : ∃ N : Nat, n = (N : Int) := ⟨n.toNat, by omega⟩
 have hN0 : 1 ≤ N := by omega
 have hN1 : N ≤ 40 := by omega
 have ho : 0 ≤ o := by omega
 clear bn h1 h2 h3
 go_upto_region 6 with fail
 refine cewp_gen ?_
 intro W hW
 have HS0 : Hid (GS w1 W (w1.heap.size + 1) (w1.heap.size + 2) (.slice none 0 0) (.slice (some ⟨w1.heap.size, 0, none⟩) 0 0) (gK 0) (gR 0 o)) := hid (by
  have a1 := alloc_at ((w1.alloc (.cells #[] 9)).alloc (.cells #[.slice (some ⟨w1.heap.size, 0, none⟩) 0 0] 22)) (.cells #[.slice none 0 0, .slice (some ⟨w1.heap.size + 1, 0, none⟩) 1 1] 34)
  have a2 := alloc_at (w1.alloc (.cells #[] 9)) (.cells #[.slice (some ⟨w1.heap.size, 0, none⟩) 0 0] 22)
  rw [World.size_alloc] at a1 a2
  rw [World.size_alloc] at a1
  have hW' : W = ((w1.alloc (.cells #[] 9)).alloc (.cells #[.slice (some ⟨w1.heap.size, 0, none⟩) 0 0] 22)).alloc (.cells #[.slice none 0 0, .slice (some ⟨w1.heap.size + 1, 0, none⟩) 1 1] 34) := hW
  rw [hW']
  refine ⟨World.ownsRow_nil _ _ _ _, ((World.ownsRow_made w1 #[] 0 (Nat.le_refl _) (Nat.zero_le _) rfl).alloc _).alloc _, a1, ?_, (fun q hq => by cases hq), valloc_bel (valloc_bel (valloc_bel (Below.refl _ _) _) _) _, ⟨by omega, by omega⟩⟩
  rw [alloc_lt (by simp)]; exact a2)
 clear hW
 obtain ⟨i1, hi', hz0', hz1', hz2'⟩ := info_parts Tryz.infoStrU
 go_wp2_with fail
 go_loopw [6, 7] (fun i _ wr => ∃ (j : Nat) (hv rv : Value), i = .int .i64 j ∧ j ≤ N ∧ Hid (GS w1 wr (w1.heap.size + 1) (w1.heap.size + 2) hv rv (gK j) (gR j o))) (fun i _ _ => N - (intOf i).toNat)
 case atStart => exact ⟨0, _, _, rfl, Nat.zero_le _, HS0⟩
 case round =>
  obtain ⟨j, hv, rv, rfl, hj, HS⟩ := hrel
  obtain ⟨c0, c1, -, f0, -⟩ := HS.out.cells
  obtain ⟨oh, ch, rfl⟩ := own_slice HS.out.hd
  have HKL := hid (show (gK j).length = j by simp [gK])
  have HRL := hid (show (gR j o).length = j by simp [gR])
  rw [HKL.out] at HS c0
  by_cases hlt : j < N
  ·clear c1
   have CT := hid (fun X => text_any (j : Int) X (by omega) (by omega))
   obtain ⟨x, hx⟩ : ∃ x, mkS (txt (j : Int)) = x := ⟨_, rfl⟩
   rw [hx] at CT
   have hxs : x.size ≤ 30 := by rw [← hx, mkS_size]; have := txt_short (j : Int) (by omega); omega
   have HX := hid (show (⟨#[108, 47]⟩ : ByteArray) ++ x = gN j by rw [← hx]; exact gn_txt j)
   clear hx
   go_wp2_with fail
   refine wp_region_ends2 (S := fun X => X.cell? ⟨w1.heap.size + 2, 0, none⟩ = some (.slice oh j ch)) (by simp) (by kernel_rfl) (by kernel_rfl) (by kernel_rfl) (by kernel_rfl) (by kernel_rfl) (by kernel_rfl) ?_
   simp only [List.dropLast, List.getLast_cons_cons, List.getLast_singleton, List.length_cons, List.length_nil]
   have hS0 : wr.drew.cell? ⟨w1.heap.size + 2, 0, none⟩ = some (.slice oh j ch) := c0
   refine take_h (i := 0) (v := ?_) rfl (by kernel_rfl) (by kernel_rfl) (by kernel_rfl) (fun _ _ _ h => h) (by rfl) ?_ hS0 ?_
   rotate_left
   ·(intro X hX; have y0 : X.cell? ⟨w1.heap.size + 2, 0, none⟩ = some (.slice oh j ch) := hX; go_simp; try with_reducible rfl)
   try simp only [Act.put, List.setIfInBounds_toArray, List.set_cons_zero, List.set_cons_succ]
   refine take_h (i := 1) (v := ?_) rfl (by kernel_rfl) (by kernel_rfl) (by kernel_rfl) (fun _ _ _ h => h) (by rfl) ?_ hS0 ?_
   rotate_left
   ·(intro X hX; have y0 : X.cell? ⟨w1.heap.size + 2, 0, none⟩ = some (.slice oh j ch) := hX; go_simp; try with_reducible rfl)
   try simp only [Act.put, List.setIfInBounds_toArray, List.set_cons_zero, List.set_cons_succ]
   refine take_h (i := 2) (v := ?_) rfl (by kernel_rfl) (by kernel_rfl) (by kernel_rfl) (fun _ _ _ h => h) (by rfl) ?_ hS0 ?_
   rotate_left
   ·(intro X hX; have y0 : X.cell? ⟨w1.heap.size + 2, 0, none⟩ = some (.slice oh j ch) := hX; go_simp; try with_reducible rfl)
   try simp only [Act.put, List.setIfInBounds_toArray, List.set_cons_zero, List.set_cons_succ]
   refine step_h (i := 3) rfl (by kernel_rfl) ?_
   intro KK hKK
   go_simp
   go_at_call 25
   refine (CT.out wr.drew).mono ?_
   rintro e w6 ⟨rfl, hb6⟩
   have hb6' : Below wr.heap.size wr w6 := vonto (Below.refl wr.heap.size wr).drew hb6
   go_wp2_with fail
   refine hKK.out _ _ (keepCell hb6' c0) (fun hS1 => ?_)
   clear hKK KK hS0
   try simp only [Act.put, List.setIfInBounds_toArray, List.set_cons_zero, List.set_cons_succ]
   refine take_h (i := 4) (v := .string ((⟨#[108, 47]⟩ : ByteArray) ++ x)) rfl (by kernel_rfl) (by kernel_rfl) (by kernel_rfl) (fun _ _ _ h => h) (by rfl) ?_ hS1 ?_
   ·(intro X hX; go_simp; omega)
   try simp only [Act.put, List.setIfInBounds_toArray, List.set_cons_zero, List.set_cons_succ]
   rw [HX.out]
   refine step_h (i := 5) rfl (by kernel_rfl) ?_
   intro KK hKK
   go_simp
   have hbx : Below wr.heap.size wr (w6.alloc (.cells #[.string (gN j)] 9)) := vonto hb6' (valloc_bel (Below.refl _ _) _)
   refine hKK.out _ _ (keepCell hbx c0) (fun hS2 => ?_)
   clear hKK KK hS1
   try simp only [Act.put, List.setIfInBounds_toArray, List.set_cons_zero, List.set_cons_succ]
   refine step_h (i := 6) rfl (by kernel_rfl) ?_
   intro KK hKK
   have hT2 := HS.out.onto hbx
   refine step_append_lies _ (by rfl) _ _ _ (by rfl) w1.heap.size 9 i1 (.string ⟨#[]⟩) 1 16 Tryz.underlying22 hi' hz0' hz1' hz2' rfl (by decide) _ j _ (by rfl) (HKL.out ▸ hT2.hd) ⟨w6.heap.size, 0, none⟩ 1 1 [.string (gN j)] (by rfl) rfl (new_cells w6 _ 9) (by intro u hu; rw [List.mem_singleton.1 hu]; rfl) (by decide) (by unfold maxLen; omega) (by omega) hT2.bel.size (w6.heap.size + 1) (by simp) ?_
   intro g9 cap9 w9 hown9 hgr9 hat9 hlt9
   have hd := hT2.head (hv' := .slice (some ⟨g9, 0, none⟩) (j + 1) cap9) (gN j) (by rw [HKL.out]; exact hown9) hgr9 (fun q hq => by
    rcases hat9 with h | h
    ·left; rw [h]; exact hq
    ·right; rw [World.size_alloc, ← h]; simpa [Value.ownBlock] using hq.symm)
   have c90 : w9.cell? ⟨w1.heap.size + 2, 0, none⟩ = some (.slice oh j ch) := by
    rw [World.cell?_of_block (hgr9.block _ (lt_heap hT2.bx) (off_ne (own_off hT2.hd hT2.bx (by decide))))]
    exact hS2
   have hf9 : w9.frozen? ⟨w1.heap.size + 2, 0, none⟩ = false := by simp [World.frozen?, (hgr9.block _ (lt_heap hT2.bx) (off_ne (own_off hT2.hd hT2.bx (by decide)))).trans hT2.bx]
   refine hKK.out _ _ c90 (fun hS3 => ?_)
   clear hKK KK hS2
   try simp only [Act.put, List.setIfInBounds_toArray, List.set_cons_zero, List.set_cons_succ]
   refine take_h (i := 7) (v := ?_) rfl (by kernel_rfl) (by kernel_rfl) (by kernel_rfl) (fun _ _ _ h => h) (by rfl) ?_ hS3 ?_
   rotate_left
   ·(intro X hX; have y0 : X.cell? ⟨w1.heap.size + 2, 0, none⟩ = some (.slice oh j ch) := hX; go_simp; try with_reducible rfl)
   try simp only [Act.put, List.setIfInBounds_toArray, List.set_cons_zero, List.set_cons_succ]
   refine wpAnyH_done (by kernel_rfl) ?_ _
   change Oper.wp _ _ _ _ _ _
   have HS9 := hid hd
   clear hd hgr9 hown9 hT2 hat9 hlt9 hbx hb6 hb6' CT HX HS hS3
   go_simp
   generalize w9.setCell ⟨w1.heap.size + 2, 0, none⟩ (.slice (some ⟨g9, 0, none⟩) (j + 1) cap9) = W2 at *
   clear c90 hf9
   obtain ⟨-, d1, d2, -, -⟩ := HS9.out.cells
   obtain ⟨orr, cr, rfl⟩ := own_slice HS9.out.rw
   rw [HRL.out] at HS9 d2
   by_cases hio : (j : Int) = o
   ·have HC := hid (show gCl o j = ⟨#[]⟩ by unfold gCl; rw [if_pos hio])
    go_wp2_with fail
    have hS0 : W2.drew.cell? ⟨w1.heap.size + 2, 1, none⟩ = some (.slice (some ⟨w1.heap.size + 1, 0, none⟩) 1 1) ∧ W2.drew.cell? ⟨w1.heap.size + 1, 0, none⟩ = some (.slice orr j cr) := ⟨d1, d2⟩
    refine wp_region_ends2 (S := fun X => X.cell? ⟨w1.heap.size + 2, 1, none⟩ = some (.slice (some ⟨w1.heap.size + 1, 0, none⟩) 1 1) ∧ X.cell? ⟨w1.heap.size + 1, 0, none⟩ = some (.slice orr j cr)) (by simp) (by kernel_rfl) (by kernel_rfl) (by kernel_rfl) (by kernel_rfl) (by kernel_rfl) (by kernel_rfl) ?_
    simp only [List.dropLast, List.getLast_cons_cons, List.getLast_singleton, List.length_cons, List.length_nil]
    refine take_h (i := 0) (v := ?_) rfl (by kernel_rfl) (by kernel_rfl) (by kernel_rfl) (fun _ _ _ h => h) (by rfl) ?_ hS0 ?_
    rotate_left
    ·(intro X hX; obtain ⟨y0, y1⟩ := hX; go_simp; try with_reducible rfl)
    try simp only [Act.put, List.setIfInBounds_toArray, List.set_cons_zero, List.set_cons_succ]
    refine take_h (i := 1) (v := ?_) rfl (by kernel_rfl) (by kernel_rfl) (by kernel_rfl) (fun _ _ _ h => h) (by rfl) ?_ hS0 ?_
    rotate_left
    ·(intro X hX; obtain ⟨y0, y1⟩ := hX; go_simp; try with_reducible rfl)
    try simp only [Act.put, List.setIfInBounds_toArray, List.set_cons_zero, List.set_cons_succ]
    refine take_h (i := 2) (v := ?_) rfl (by kernel_rfl) (by kernel_rfl) (by kernel_rfl) (fun _ _ _ h => h) (by rfl) ?_ hS0 ?_
    rotate_left
    ·(intro X hX; obtain ⟨y0, y1⟩ := hX; go_simp; try with_reducible rfl)
    try simp only [Act.put, List.setIfInBounds_toArray, List.set_cons_zero, List.set_cons_succ]
    refine take_h (i := 3) (v := ?_) rfl (by kernel_rfl) (by kernel_rfl) (by kernel_rfl) (fun _ _ _ h => h) (by rfl) ?_ hS0 ?_
    rotate_left
    ·(intro X hX; obtain ⟨y0, y1⟩ := hX; go_simp; try with_reducible rfl)
    try simp only [Act.put, List.setIfInBounds_toArray, List.set_cons_zero, List.set_cons_succ]
    refine take_h (i := 4) (v := ?_) rfl (by kernel_rfl) (by kernel_rfl) (by kernel_rfl) (fun _ _ _ h => h) (by rfl) ?_ hS0 ?_
    rotate_left
    ·(intro X hX; obtain ⟨y0, y1⟩ := hX; go_simp; try with_reducible rfl)
    try simp only [Act.put, List.setIfInBounds_toArray, List.set_cons_zero, List.set_cons_succ]
    refine take_h (i := 5) (v := ?_) rfl (by kernel_rfl) (by kernel_rfl) (by kernel_rfl) (fun _ _ _ h => h) (by rfl) ?_ hS0 ?_
    rotate_left
    ·(intro X hX; obtain ⟨y0, y1⟩ := hX; go_simp; try with_reducible rfl)
    try simp only [Act.put, List.setIfInBounds_toArray, List.set_cons_zero, List.set_cons_succ]
    refine take_h (i := 6) (v := ?_) rfl (by kernel_rfl) (by kernel_rfl) (by kernel_rfl) (fun _ _ _ h => h) (by rfl) ?_ hS0 ?_
    rotate_left
    ·(intro X hX; obtain ⟨y0, y1⟩ := hX; go_simp; try with_reducible rfl)
    try simp only [Act.put, List.setIfInBounds_toArray, List.set_cons_zero, List.set_cons_succ]
    refine step_h (i := 7) rfl (by kernel_rfl) ?_
    intro KK hKK
    go_simp
    have hbx : Below W2.heap.size W2 (W2.drew.alloc (.cells #[.string ⟨#[]⟩] 9)) := vonto (Below.refl W2.heap.size W2).drew (valloc_bel (Below.refl _ _) _)
    refine hKK.out _ _ ⟨keepCell hbx d1, keepCell hbx d2⟩ (fun hS2 => ?_)
    clear hKK KK hS0
    try simp only [Act.put, List.setIfInBounds_toArray, List.set_cons_zero, List.set_cons_succ]
    refine step_h (i := 8) rfl (by kernel_rfl) ?_
    intro KK hKK
    have hT2 := HS9.out.onto hbx
    refine step_append_lies _ (by rfl) _ _ _ (by rfl) w1.heap.size 9 i1 (.string ⟨#[]⟩) 1 16 Tryz.underlying22 hi' hz0' hz1' hz2' rfl (by decide) _ j _ (by rfl) (HRL.out ▸ hT2.rw) ⟨W2.drew.heap.size, 0, none⟩ 1 1 [.string ⟨#[]⟩] (by rfl) rfl (new_cells W2.drew _ 9) (by intro u hu; rw [List.mem_singleton.1 hu]; rfl) (by decide) (by unfold maxLen; omega) (by omega) hT2.bel.size (W2.drew.heap.size + 1) (by simp) ?_
    intro g8 cap8 w9 hown9 hgr9 hat9 hlt9
    have hd := hT2.row (rv' := .slice (some ⟨g8, 0, none⟩) (j + 1) cap8) ⟨#[]⟩ (by rw [HRL.out]; exact hown9) hgr9 (fun q hq => by
     rcases hat9 with h | h
     ·left; rw [h]; exact hq
     ·right; rw [World.size_alloc, ← h]; simpa [Value.ownBlock] using hq.symm)
    have c91 : w9.cell? ⟨w1.heap.size + 2, 1, none⟩ = some (.slice (some ⟨w1.heap.size + 1, 0, none⟩) 1 1) := by
     rw [World.cell?_of_block (hgr9.block _ (lt_heap hT2.bx) (off_ne (own_off hT2.rw hT2.bx (by decide))))]
     exact hS2.1
    have c92 : w9.cell? ⟨w1.heap.size + 1, 0, none⟩ = some (.slice orr j cr) := by
     rw [World.cell?_of_block (hgr9.block _ (lt_heap hT2.ou) (off_ne (own_off hT2.rw hT2.ou (by decide))))]
     exact hS2.2
    have hf9 : w9.frozen? ⟨w1.heap.size + 1, 0, none⟩ = false := by simp [World.frozen?, (hgr9.block _ (lt_heap hT2.ou) (off_ne (own_off hT2.rw hT2.ou (by decide)))).trans hT2.ou]
    refine hKK.out _ _ ⟨c91, c92⟩ (fun hS3 => ?_)
    clear hKK KK hS2
    try simp only [Act.put, List.setIfInBounds_toArray, List.set_cons_zero, List.set_cons_succ]
    refine take_h (i := 9) (v := ?_) rfl (by kernel_rfl) (by kernel_rfl) (by kernel_rfl) (fun _ _ _ h => h) (by rfl) ?_ hS3 ?_
    rotate_left
    ·(intro X hX; obtain ⟨y0, y1⟩ := hX; go_simp; try with_reducible rfl)
    try simp only [Act.put, List.setIfInBounds_toArray, List.set_cons_zero, List.set_cons_succ]
    refine wpAnyH_done (by kernel_rfl) ?_ _
    change Oper.wp _ _ _ _ _ _
    have HST := hid (show GS w1 (w9.setCell ⟨w1.heap.size + 1, 0, none⟩ (.slice (some ⟨g8, 0, none⟩) (j + 1) cap8)) (w1.heap.size + 1) (w1.heap.size + 2) (.slice (some ⟨g9, 0, none⟩) (j + 1) cap9) (.slice (some ⟨g8, 0, none⟩) (j + 1) cap8) (gK (j + 1)) (gR (j + 1) o) from by
     rw [← gk_more, ← gr_more, HC.out]; exact hd)
    clear hd hgr9 hown9 hT2 hat9 hlt9 hbx HS9 hS3
    go_simp
    generalize w9.setCell ⟨w1.heap.size + 1, 0, none⟩ (.slice (some ⟨g8, 0, none⟩) (j + 1) cap8) = W3 at *
    clear c91 c92 hf9
    go_wp2_with fail
    go_roundw
    case rel => exact ⟨j + 1, _, _, val_int (by omega), hlt, HST⟩
    case measure => first | (simp [intOf]; done) | (simp [intOf]; omega)
   ·have HC := hid (show gCl o j = ⟨#[49]⟩ by unfold gCl; rw [if_neg hio])
    go_wp2_with fail
    have hS0 : W2.drew.cell? ⟨w1.heap.size + 2, 1, none⟩ = some (.slice (some ⟨w1.heap.size + 1, 0, none⟩) 1 1) ∧ W2.drew.cell? ⟨w1.heap.size + 1, 0, none⟩ = some (.slice orr j cr) := ⟨d1, d2⟩
    refine wp_region_ends2 (S := fun X => X.cell? ⟨w1.heap.size + 2, 1, none⟩ = some (.slice (some ⟨w1.heap.size + 1, 0, none⟩) 1 1) ∧ X.cell? ⟨w1.heap.size + 1, 0, none⟩ = some (.slice orr j cr)) (by simp) (by kernel_rfl) (by kernel_rfl) (by kernel_rfl) (by kernel_rfl) (by kernel_rfl) (by kernel_rfl) ?_
    simp only [List.dropLast, List.getLast_cons_cons, List.getLast_singleton, List.length_cons, List.length_nil]
    refine take_h (i := 0) (v := ?_) rfl (by kernel_rfl) (by kernel_rfl) (by kernel_rfl) (fun _ _ _ h => h) (by rfl) ?_ hS0 ?_
    rotate_left
    ·(intro X hX; obtain ⟨y0, y1⟩ := hX; go_simp; try with_reducible rfl)
    try simp only [Act.put, List.setIfInBounds_toArray, List.set_cons_zero, List.set_cons_succ]
    refine take_h (i := 1) (v := ?_) rfl (by kernel_rfl) (by kernel_rfl) (by kernel_rfl) (fun _ _ _ h => h) (by rfl) ?_ hS0 ?_
    rotate_left
    ·(intro X hX; obtain ⟨y0, y1⟩ := hX; go_simp; try with_reducible rfl)
    try simp only [Act.put, List.setIfInBounds_toArray, List.set_cons_zero, List.set_cons_succ]
    refine take_h (i := 2) (v := ?_) rfl (by kernel_rfl) (by kernel_rfl) (by kernel_rfl) (fun _ _ _ h => h) (by rfl) ?_ hS0 ?_
    rotate_left
    ·(intro X hX; obtain ⟨y0, y1⟩ := hX; go_simp; try with_reducible rfl)
    try simp only [Act.put, List.setIfInBounds_toArray, List.set_cons_zero, List.set_cons_succ]
    refine take_h (i := 3) (v := ?_) rfl (by kernel_rfl) (by kernel_rfl) (by kernel_rfl) (fun _ _ _ h => h) (by rfl) ?_ hS0 ?_
    rotate_left
    ·(intro X hX; obtain ⟨y0, y1⟩ := hX; go_simp; try with_reducible rfl)
    try simp only [Act.put, List.setIfInBounds_toArray, List.set_cons_zero, List.set_cons_succ]
    refine take_h (i := 4) (v := ?_) rfl (by kernel_rfl) (by kernel_rfl) (by kernel_rfl) (fun _ _ _ h => h) (by rfl) ?_ hS0 ?_
    rotate_left
    ·(intro X hX; obtain ⟨y0, y1⟩ := hX; go_simp; try with_reducible rfl)
    try simp only [Act.put, List.setIfInBounds_toArray, List.set_cons_zero, List.set_cons_succ]
    refine take_h (i := 5) (v := ?_) rfl (by kernel_rfl) (by kernel_rfl) (by kernel_rfl) (fun _ _ _ h => h) (by rfl) ?_ hS0 ?_
    rotate_left
    ·(intro X hX; obtain ⟨y0, y1⟩ := hX; go_simp; try with_reducible rfl)
    try simp only [Act.put, List.setIfInBounds_toArray, List.set_cons_zero, List.set_cons_succ]
    refine take_h (i := 6) (v := ?_) rfl (by kernel_rfl) (by kernel_rfl) (by kernel_rfl) (fun _ _ _ h => h) (by rfl) ?_ hS0 ?_
    rotate_left
    ·(intro X hX; obtain ⟨y0, y1⟩ := hX; go_simp; try with_reducible rfl)
    try simp only [Act.put, List.setIfInBounds_toArray, List.set_cons_zero, List.set_cons_succ]
    refine step_h (i := 7) rfl (by kernel_rfl) ?_
    intro KK hKK
    go_simp
    have hbx : Below W2.heap.size W2 (W2.drew.alloc (.cells #[.string ⟨#[49]⟩] 9)) := vonto (Below.refl W2.heap.size W2).drew (valloc_bel (Below.refl _ _) _)
    refine hKK.out _ _ ⟨keepCell hbx d1, keepCell hbx d2⟩ (fun hS2 => ?_)
    clear hKK KK hS0
    try simp only [Act.put, List.setIfInBounds_toArray, List.set_cons_zero, List.set_cons_succ]
    refine step_h (i := 8) rfl (by kernel_rfl) ?_
    intro KK hKK
    have hT2 := HS9.out.onto hbx
    refine step_append_lies _ (by rfl) _ _ _ (by rfl) w1.heap.size 9 i1 (.string ⟨#[]⟩) 1 16 Tryz.underlying22 hi' hz0' hz1' hz2' rfl (by decide) _ j _ (by rfl) (HRL.out ▸ hT2.rw) ⟨W2.drew.heap.size, 0, none⟩ 1 1 [.string ⟨#[49]⟩] (by rfl) rfl (new_cells W2.drew _ 9) (by intro u hu; rw [List.mem_singleton.1 hu]; rfl) (by decide) (by unfold maxLen; omega) (by omega) hT2.bel.size (W2.drew.heap.size + 1) (by simp) ?_
    intro g8 cap8 w9 hown9 hgr9 hat9 hlt9
    have hd := hT2.row (rv' := .slice (some ⟨g8, 0, none⟩) (j + 1) cap8) ⟨#[49]⟩ (by rw [HRL.out]; exact hown9) hgr9 (fun q hq => by
     rcases hat9 with h | h
     ·left; rw [h]; exact hq
     ·right; rw [World.size_alloc, ← h]; simpa [Value.ownBlock] using hq.symm)
    have c91 : w9.cell? ⟨w1.heap.size + 2, 1, none⟩ = some (.slice (some ⟨w1.heap.size + 1, 0, none⟩) 1 1) := by
     rw [World.cell?_of_block (hgr9.block _ (lt_heap hT2.bx) (off_ne (own_off hT2.rw hT2.bx (by decide))))]
     exact hS2.1
    have c92 : w9.cell? ⟨w1.heap.size + 1, 0, none⟩ = some (.slice orr j cr) := by
     rw [World.cell?_of_block (hgr9.block _ (lt_heap hT2.ou) (off_ne (own_off hT2.rw hT2.ou (by decide))))]
     exact hS2.2
    have hf9 : w9.frozen? ⟨w1.heap.size + 1, 0, none⟩ = false := by simp [World.frozen?, (hgr9.block _ (lt_heap hT2.ou) (off_ne (own_off hT2.rw hT2.ou (by decide)))).trans hT2.ou]
    refine hKK.out _ _ ⟨c91, c92⟩ (fun hS3 => ?_)
    clear hKK KK hS2
    try simp only [Act.put, List.setIfInBounds_toArray, List.set_cons_zero, List.set_cons_succ]
    refine take_h (i := 9) (v := ?_) rfl (by kernel_rfl) (by kernel_rfl) (by kernel_rfl) (fun _ _ _ h => h) (by rfl) ?_ hS3 ?_
    rotate_left
    ·(intro X hX; obtain ⟨y0, y1⟩ := hX; go_simp; try with_reducible rfl)
    try simp only [Act.put, List.setIfInBounds_toArray, List.set_cons_zero, List.set_cons_succ]
    refine wpAnyH_done (by kernel_rfl) ?_ _
    change Oper.wp _ _ _ _ _ _
    have HST := hid (show GS w1 (w9.setCell ⟨w1.heap.size + 1, 0, none⟩ (.slice (some ⟨g8, 0, none⟩) (j + 1) cap8)) (w1.heap.size + 1) (w1.heap.size + 2) (.slice (some ⟨g9, 0, none⟩) (j + 1) cap9) (.slice (some ⟨g8, 0, none⟩) (j + 1) cap8) (gK (j + 1)) (gR (j + 1) o) from by
     rw [← gk_more, ← gr_more, HC.out]; exact hd)
    clear hd hgr9 hown9 hT2 hat9 hlt9 hbx HS9 hS3
    go_simp
    generalize w9.setCell ⟨w1.heap.size + 1, 0, none⟩ (.slice (some ⟨g8, 0, none⟩) (j + 1) cap8) = W3 at *
    clear c91 c92 hf9
    go_wp2_with fail
    go_roundw
    case rel => exact ⟨j + 1, _, _, val_int (by omega), hlt, HST⟩
    case measure => first | (simp [intOf]; done) | (simp [intOf]; omega)
  ·have hjn : j = N := by omega
   subst hjn
   have HB2 := hid (vonto HB1.out HS.out.bel)
   by_cases h5 : (j : Int) ≤ o
   ·have CU := hid (g_unflat (g_whole (gI_out h5) (by omega) hN1 (by omega)) hN1 HS.out (HG.out.on HB2.out))
    go_wp2_with fail
    go_at_call 14
    refine CU.out.mono ?_
    rintro e w2 ⟨x, y, rfl, hv2, hb2⟩
    obtain ⟨al, bl, f, g, p, q, oL, oM, cL, cM, rfl, rfl, -, -, hL3, -, -, -, -, -, kL, -, -, rL, -, -, -⟩ := hv2.parts
    obtain rfl := hL3 (show 0 < 1 from Nat.one_pos)
    obtain ⟨a2, b2, f2, g2, p2, q2, oL2, oM2, cL2, cM2, e1, e2, -, -, -, hM3, -, -, -, -, -, -, kM, -, rM, -, -⟩ := (rL 0 (gT (j)) rfl).parts
    have hn1 := kL 0 (gT (j)) rfl
    rw [e1, e2] at hn1
    obtain rfl := hM3 (show 0 < 1 by decide)
    have hn2 := kM 0 (.mk 5 0 ⟨#[]⟩ (List.replicate (j) one1) [] []) rfl
    obtain ⟨a3, b3, f3, g3, p3, q3, oL3, oM3, cL3, cM3, e3, e4, -, -, -, -, -, -, -, -, -, -, -, -, -, -, -⟩ := (rM 0 (.mk 5 0 ⟨#[]⟩ (List.replicate (j) one1) [] []) rfl).parts
    rw [e3, e4] at hn2
    obtain ⟨-, -, -, -, n4⟩ := hn1
    obtain ⟨-, -, -, l3, -⟩ := hn2
    simp only [VT.ls, List.length_replicate] at l3
    clear e1 e2 e3 e4 kL rL kM rM hv2 hL3 hM3
    have HB3 := hid (vonto HB2.out hb2)
    clear hb2 HB2 CU HS c0 c1 f0
    simp only [vv, VT.kd, VT.nm, VT.st]
    go_upto_region 15 with fail
    refine cewp_gen ?_
    intro W3 hW
    have hbW : Below w2.heap.size w2 W3 := by rw [hW]; exact valloc_bel (Below.refl _ _) _
    have t3 : W3.cell? ⟨w2.heap.size, 3, none⟩ = some (.slice (some al) 1 cL) := by rw [hW]; simp [VT.ls]
    have n4 := keepCell hbW n4
    have l3 := keepCell hbW l3
    have HBW := hid (vonto HB3.out hbW)
    clear hW hbW HB3
    rw [Nat.zero_mul, show al.add 0 = al by simp [Addr.add]] at n4
    rw [Nat.zero_mul, show b2.add 0 = b2 by simp [Addr.add]] at l3
    replace n4 : W3.cell? ⟨al.block, al.off + 4, none⟩ = some (.slice (some b2) 1 cM2) := n4
    replace l3 : W3.cell? ⟨b2.block, b2.off + 1 + 3, none⟩ = some (.slice oL3 (j) cL3) := l3
    go_wp2_with fail
    go_ret
    exact ⟨rfl, HBW.out⟩
   by_cases h6 : j = 1
   ·subst h6
    have ho0 : o = 0 := by omega
    subst ho0
    have CU := hid (g_unflat (g_none (show gI 1 0 = [] by rfl) (by omega)) hN1 HS.out (HG.out.on HB2.out))
    go_wp2_with fail
    go_at_call 14
    refine CU.out.mono ?_
    rintro e w2 ⟨x, y, rfl, hv2, hb2⟩
    obtain ⟨ox, nx2, cx, oy, ny2, cy, rfl, rfl⟩ := hv_slices hv2
    have HB3 := hid (vonto HB2.out hb2)
    clear hv2 hb2 HB2 CU HS c0 c1 f0
    simp only [vv, zeroT, VT.kd, VT.nm, VT.st]
    go_upto_region 15 with fail
    refine cewp_gen ?_
    intro W3 hW
    have hbW : Below w2.heap.size w2 W3 := by rw [hW]; exact valloc_bel (Below.refl _ _) _
    have HBW := hid (vonto HB3.out hbW)
    clear hW hbW HB3
    go_wp2_with fail
    go_ret
    exact ⟨rfl, HBW.out⟩
   obtain ⟨m, rfl⟩ : ∃ m, j = m + 2 := ⟨j - 2, by omega⟩
   by_cases h7 : ((m + 1 : Nat) : Int) = o
   ·have CU := hid (g_unflat (g_whole (gI_last h7) (by omega) (by omega) (by omega)) hN1 HS.out (HG.out.on HB2.out))
    go_wp2_with fail
    go_at_call 14
    refine CU.out.mono ?_
    rintro e w2 ⟨x, y, rfl, hv2, hb2⟩
    obtain ⟨al, bl, f, g, p, q, oL, oM, cL, cM, rfl, rfl, -, -, hL3, -, -, -, -, -, kL, -, -, rL, -, -, -⟩ := hv2.parts
    obtain rfl := hL3 (show 0 < 1 from Nat.one_pos)
    obtain ⟨a2, b2, f2, g2, p2, q2, oL2, oM2, cL2, cM2, e1, e2, -, -, -, hM3, -, -, -, -, -, -, kM, -, rM, -, -⟩ := (rL 0 (gT (m + 1)) rfl).parts
    have hn1 := kL 0 (gT (m + 1)) rfl
    rw [e1, e2] at hn1
    obtain rfl := hM3 (show 0 < 1 by decide)
    have hn2 := kM 0 (.mk 5 0 ⟨#[]⟩ (List.replicate (m + 1) one1) [] []) rfl
    obtain ⟨a3, b3, f3, g3, p3, q3, oL3, oM3, cL3, cM3, e3, e4, -, -, -, -, -, -, -, -, -, -, -, -, -, -, -⟩ := (rM 0 (.mk 5 0 ⟨#[]⟩ (List.replicate (m + 1) one1) [] []) rfl).parts
    rw [e3, e4] at hn2
    obtain ⟨-, -, -, -, n4⟩ := hn1
    obtain ⟨-, -, -, l3, -⟩ := hn2
    simp only [VT.ls, List.length_replicate] at l3
    clear e1 e2 e3 e4 kL rL kM rM hv2 hL3 hM3
    have HB3 := hid (vonto HB2.out hb2)
    clear hb2 HB2 CU HS c0 c1 f0
    simp only [vv, VT.kd, VT.nm, VT.st]
    go_upto_region 15 with fail
    refine cewp_gen ?_
    intro W3 hW
    have hbW : Below w2.heap.size w2 W3 := by rw [hW]; exact valloc_bel (Below.refl _ _) _
    have t3 : W3.cell? ⟨w2.heap.size, 3, none⟩ = some (.slice (some al) 1 cL) := by rw [hW]; simp [VT.ls]
    have n4 := keepCell hbW n4
    have l3 := keepCell hbW l3
    have HBW := hid (vonto HB3.out hbW)
    clear hW hbW HB3
    rw [Nat.zero_mul, show al.add 0 = al by simp [Addr.add]] at n4
    rw [Nat.zero_mul, show b2.add 0 = b2 by simp [Addr.add]] at l3
    replace n4 : W3.cell? ⟨al.block, al.off + 4, none⟩ = some (.slice (some b2) 1 cM2) := n4
    replace l3 : W3.cell? ⟨b2.block, b2.off + 1 + 3, none⟩ = some (.slice oL3 (m + 1) cL3) := l3
    go_wp2_with fail
    go_ret
    exact ⟨rfl, HBW.out⟩
   by_cases h8 : o = 0
   ·subst h8
    obtain ⟨r, hr⟩ := gI_zero (n := m)
    have CU := hid (g_unflat (g_gap hr (by omega) (by omega) (by omega)) hN1 HS.out (HG.out.on HB2.out))
    clear hr
    go_wp2_with fail
    go_at_call 14
    refine CU.out.mono ?_
    rintro e w2 ⟨x, y, rfl, hv2, hb2⟩
    obtain ⟨ox, nx2, cx, oy, ny2, cy, rfl, rfl⟩ := hv_slices hv2
    have HB3 := hid (vonto HB2.out hb2)
    clear hv2 hb2 HB2 CU HS c0 c1 f0
    simp only [vv, zeroT, VT.kd, VT.nm, VT.st]
    go_upto_region 15 with fail
    refine cewp_gen ?_
    intro W3 hW
    have hbW : Below w2.heap.size w2 W3 := by rw [hW]; exact valloc_bel (Below.refl _ _) _
    have HBW := hid (vonto HB3.out hbW)
    clear hW hbW HB3
    go_wp2_with fail
    go_ret
    exact ⟨rfl, HBW.out⟩
   ·obtain ⟨r, hr⟩ := gI_pos (n := m + 1) (o := o) (by omega)
    have CU := hid (g_unflat (g_gap hr (by omega) (by omega) (by omega)) hN1 HS.out (HG.out.on HB2.out))
    clear hr
    go_wp2_with fail
    go_at_call 14
    refine CU.out.mono ?_
    rintro e w2 ⟨x, y, rfl, hv2, hb2⟩
    obtain ⟨ox, nx2, cx, oy, ny2, cy, rfl, rfl⟩ := hv_slices hv2
    have HB3 := hid (vonto HB2.out hb2)
    clear hv2 hb2 HB2 CU HS c0 c1 f0
    simp only [vv, zeroT, VT.kd, VT.nm, VT.st]
    go_upto_region 15 with fail
    refine cewp_gen ?_
    intro W3 hW
    have hbW : Below w2.heap.size w2 W3 := by rw [hW]; exact valloc_bel (Below.refl _ _) _
    have HBW := hid (vonto HB3.out hbW)
    clear hW hbW HB3
    go_wp2_with fail
    go_ret
    exact ⟨rfl, HBW.out⟩
end Go.Proofs.YteimbjamnfkapaaGreatDoor
