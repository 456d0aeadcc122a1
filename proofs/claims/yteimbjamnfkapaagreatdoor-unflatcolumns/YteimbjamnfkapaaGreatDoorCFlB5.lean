import Derived.Test.YteimbjamnfkapaaGreatDoorCFlB
import Derived.Test.YteimbjamnfkapaaGreatDoorCOwnB
/- flat: a node visited: another way. -/
namespace Go.Proofs.YteimbjamnfkapaaGreatDoor
open Go.RowKit
set_option maxRecDepth 100000 in
set_option maxHeartbeats 4000000 in
theorem lvisit_leaf6 (W : World) (T : VT) (x y : Value) (b : Nat) (nv pv0 : Value) (now : List PStep) (E : List LE) (w : World) (hP : plainT T = true) (hT : HV W T x y) (hW : Lk W b nv pv0 now E w) (hn : now.length + szT T ≤ 2000000) (hE : E.length + szT T ≤ 2000000) (hsz0 : szT T ≤ 1000000) (hk6 : T.kd = 6) (hl0 : T.vs.length = 0) :
  Calls Tryz.prog 56 #[.pointer (some ⟨b, 0, none⟩), vv T x y] w fun e w' => e = .returned (.tuple #[]) ∧ ∃ nv2 pv2 E2, Lk W b nv2 pv2 now E2 w' ∧ E2.map LE.pt = E.map LE.pt ++ lfT T now := by
 have HN5 := hid (show ¬ (T.kd = 5 ∧ 0 < T.ls.length) by omega)
 have HN6 := hid (show ¬ (T.kd = 6 ∧ 0 < T.vs.length) by omega)
 have t5 : (T.kd == 5) = false := by simp; omega
 have t6 : (T.kd == 6) = true := by simpa using hk6
 have hl1 : ¬ ((0 : Int) < (T.vs.length : Int)) := by omega
 clear hk6 hl0
 have HALL := hid (show lfT T now = [(now, T)] by rw [lfT_at, if_neg HN5.out, if_neg HN6.out])
 have HBR := hid (leaf_bare hP HN5.out HN6.out)
 have HTW := hid (hT.onto hW.bel)
 obtain ⟨al, bl, f, g, p, q, oL, oM, cL, cM, rfl, rfl, -, -, hL3, hM3, hK, -, hlL, hlM, kL, kK, kM, rL, rM, -, -⟩ := hT.parts
 obtain ⟨i1, hi', hz0', hz1', hz2'⟩ := info_parts Tryz.infoLeaf
 obtain ⟨⟨on, cn, rfl⟩, ⟨op, cp, rfl⟩⟩ := hW.slices
 have HW := hid (fun X (hX : Below w.heap.size w X) => hW.onto hX)
 have hltb := hW.lt
 have HCP := hid (fun (X : World) (hX : HV X T (.slice oL T.ls.length cL) (.slice oM T.vs.length cM)) => vcopy_any (szT T) T (Nat.le_refl _) hsz0 _ _ X hX)
 have HSZ := hid hsz0
 clear hT hW kL kK kM rL rM hK hL3 hM3 HN5 HN6 hP hsz0
 simp only [vv] at HCP ⊢
 go_enter Tryz.func56, Tryz.ntmps56
 go_wp2_with fail
 have hb0 : Below w.heap.size w (w.alloc (.cells #[.int .i64 T.kd, .int .i64 T.nm, .string T.st, .slice oL T.ls.length cL, .slice oM T.vs.length cM] 29)) := valloc_bel (Below.refl _ _) _
 have hc0 : ∀ (o : Nat) (u : Value), [Value.int .i64 T.kd, .int .i64 T.nm, .string T.st, .slice oL T.ls.length cL, .slice oM T.vs.length cM][o]? = some u → (w.alloc (.cells #[.int .i64 T.kd, .int .i64 T.nm, .string T.st, .slice oL T.ls.length cL, .slice oM T.vs.length cM] 29)).cell? ⟨w.heap.size, o, none⟩ = some u := fun o u h => by
  have := new_cells w [Value.int .i64 T.kd, .int .i64 T.nm, .string T.st, .slice oL T.ls.length cL, .slice oM T.vs.length cM] 29 o u h
  rwa [add_at] at this
 have hk0 := hc0 0 _ rfl
 have hk3 := hc0 3 _ rfl
 have hk4 := hc0 4 _ rfl
 clear hl1 t5 t6
 clear hk0 hk3 hk4
 have hwk := HW.out _ hb0
 obtain ⟨W0, hw0⟩ : ∃ W0, W0 = (w.alloc (.cells #[.int .i64 T.kd, .int .i64 T.nm, .string T.st, .slice oL T.ls.length cL, .slice oM T.vs.length cM] 29)) := ⟨_, rfl⟩
 rw [← hw0] at hb0 hc0 hwk ⊢
 have hsz0 : W0.heap.size = w.heap.size + 1 := by rw [hw0]; simp
 have hpl : ∀ k, (Value.slice op E.length cp).ownBlock = some k → k < w.heap.size := fun k hk => ((HW.out w (Below.refl _ _)).ps.lt k hk).2
 obtain ⟨q0, q1, -⟩ := hwk.cells
 have v0 := hc0 0 _ rfl
 have v1 := hc0 1 _ rfl
 have v2 := hc0 2 _ rfl
 have v3 := hc0 3 _ rfl
 have v4 := hc0 4 _ rfl
 have HWK := hid hwk
 clear hw0 hc0
 refine wp_region_ends2 (S := fun X => X.cell? ⟨b, 0, none⟩ = some (.slice on now.length cn) ∧ X.cell? ⟨b, 1, none⟩ = some (.slice op E.length cp) ∧ X.cell? ⟨w.heap.size, 0, none⟩ = some (.int .i64 T.kd) ∧ X.cell? ⟨w.heap.size, 1, none⟩ = some (.int .i64 T.nm) ∧ X.cell? ⟨w.heap.size, 2, none⟩ = some (.string T.st) ∧ X.cell? ⟨w.heap.size, 3, none⟩ = some (.slice oL T.ls.length cL) ∧ X.cell? ⟨w.heap.size, 4, none⟩ = some (.slice oM T.vs.length cM)) (by simp) (by kernel_rfl) (by kernel_rfl) (by kernel_rfl) (by kernel_rfl) (by kernel_rfl) (by kernel_rfl) ?_
 simp only [List.dropLast, List.getLast_cons_cons, List.getLast_singleton, List.length_cons, List.length_nil]
 have hS0 : W0.drew.cell? ⟨b, 0, none⟩ = some (.slice on now.length cn) ∧ W0.drew.cell? ⟨b, 1, none⟩ = some (.slice op E.length cp) ∧ W0.drew.cell? ⟨w.heap.size, 0, none⟩ = some (.int .i64 T.kd) ∧ W0.drew.cell? ⟨w.heap.size, 1, none⟩ = some (.int .i64 T.nm) ∧ W0.drew.cell? ⟨w.heap.size, 2, none⟩ = some (.string T.st) ∧ W0.drew.cell? ⟨w.heap.size, 3, none⟩ = some (.slice oL T.ls.length cL) ∧ W0.drew.cell? ⟨w.heap.size, 4, none⟩ = some (.slice oM T.vs.length cM) := ⟨q0, q1, v0, v1, v2, v3, v4⟩
 refine take_h (i := 0) (v := ?_) rfl (by kernel_rfl) (by kernel_rfl) (by kernel_rfl) (fun _ _ _ h => h) (by rfl) ?_ hS0 ?_
 rotate_left
 ·(intro X hX; obtain ⟨hX1, hX2, hX3, hX4, hX5, hX6, hX7⟩ := hX; go_simp; try with_reducible rfl)
 simp only [Act.put, List.setIfInBounds_toArray, List.set_cons_zero, List.set_cons_succ]
 refine take_h (i := 1) (v := ?_) rfl (by kernel_rfl) (by kernel_rfl) (by kernel_rfl) (fun _ _ _ h => h) (by rfl) ?_ hS0 ?_
 rotate_left
 ·(intro X hX; obtain ⟨hX1, hX2, hX3, hX4, hX5, hX6, hX7⟩ := hX; go_simp; try with_reducible rfl)
 simp only [Act.put, List.setIfInBounds_toArray, List.set_cons_zero, List.set_cons_succ]
 refine take_h (i := 2) (v := ?_) rfl (by kernel_rfl) (by kernel_rfl) (by kernel_rfl) (fun _ _ _ h => h) (by rfl) ?_ hS0 ?_
 rotate_left
 ·(intro X hX; obtain ⟨hX1, hX2, hX3, hX4, hX5, hX6, hX7⟩ := hX; go_simp; try with_reducible rfl)
 simp only [Act.put, List.setIfInBounds_toArray, List.set_cons_zero, List.set_cons_succ]
 refine take_h (i := 3) (v := ?_) rfl (by kernel_rfl) (by kernel_rfl) (by kernel_rfl) (fun _ _ _ h => h) (by rfl) ?_ hS0 ?_
 rotate_left
 ·(intro X hX; obtain ⟨hX1, hX2, hX3, hX4, hX5, hX6, hX7⟩ := hX; go_simp; try with_reducible rfl)
 simp only [Act.put, List.setIfInBounds_toArray, List.set_cons_zero, List.set_cons_succ]
 refine take_h (i := 4) (v := ?_) rfl (by kernel_rfl) (by kernel_rfl) (by kernel_rfl) (fun _ _ _ h => h) (by rfl) ?_ hS0 ?_
 rotate_left
 ·(intro X hX; obtain ⟨hX1, hX2, hX3, hX4, hX5, hX6, hX7⟩ := hX; go_simp; try with_reducible rfl)
 simp only [Act.put, List.setIfInBounds_toArray, List.set_cons_zero, List.set_cons_succ]
 refine take_h (i := 5) (v := ?_) rfl (by kernel_rfl) (by kernel_rfl) (by kernel_rfl) (fun _ _ _ h => h) (by rfl) ?_ hS0 ?_
 rotate_left
 ·(intro X hX; obtain ⟨hX1, hX2, hX3, hX4, hX5, hX6, hX7⟩ := hX; go_simp; try with_reducible rfl)
 simp only [Act.put, List.setIfInBounds_toArray, List.set_cons_zero, List.set_cons_succ]
 refine take_h (i := 6) (v := ?_) rfl (by kernel_rfl) (by kernel_rfl) (by kernel_rfl) (fun _ _ _ h => h) (by rfl) ?_ hS0 ?_
 rotate_left
 ·(intro X hX; obtain ⟨hX1, hX2, hX3, hX4, hX5, hX6, hX7⟩ := hX; go_simp; try with_reducible rfl)
 simp only [Act.put, List.setIfInBounds_toArray, List.set_cons_zero, List.set_cons_succ]
 refine take_h (i := 7) (v := ?_) rfl (by kernel_rfl) (by kernel_rfl) (by kernel_rfl) (fun _ _ _ h => h) (by rfl) ?_ hS0 ?_
 rotate_left
 ·(intro X hX; obtain ⟨hX1, hX2, hX3, hX4, hX5, hX6, hX7⟩ := hX; go_simp; try with_reducible rfl)
 simp only [Act.put, List.setIfInBounds_toArray, List.set_cons_zero, List.set_cons_succ]
 refine take_h (i := 8) (v := ?_) rfl (by kernel_rfl) (by kernel_rfl) (by kernel_rfl) (fun _ _ _ h => h) (by rfl) ?_ hS0 ?_
 rotate_left
 ·(intro X hX; obtain ⟨hX1, hX2, hX3, hX4, hX5, hX6, hX7⟩ := hX; go_simp; try with_reducible rfl)
 simp only [Act.put, List.setIfInBounds_toArray, List.set_cons_zero, List.set_cons_succ]
 refine take_h (i := 10) (v := ?_) rfl (by kernel_rfl) (by kernel_rfl) (by kernel_rfl) (fun _ _ _ h => h) (by rfl) ?_ hS0 ?_
 rotate_left
 ·(intro X hX; obtain ⟨hX1, hX2, hX3, hX4, hX5, hX6, hX7⟩ := hX; go_simp; try with_reducible rfl)
 simp only [Act.put, List.setIfInBounds_toArray, List.set_cons_zero, List.set_cons_succ]
 refine step_h (i := 9) rfl (by kernel_rfl) ?_
 intro KK hKK
 have HC := hid (pclone_any now _ _ W0.drew HWK.out.ns (by omega))
 go_simp
 go_wp2_with (go_at_call 103; go_must (refine HC.out.mono ?_; rintro e w1 ⟨u, rfl, hu1, hb1⟩))
 obtain ⟨ou, cu, rfl⟩ := own_slice hu1
 replace hb1 : Below W0.heap.size W0 w1 := (Below.refl W0.heap.size W0).drew.trans hb1
 refine hKK.out _ _ ⟨keepCell hb1 q0, keepCell hb1 q1, keepCell hb1 v0, keepCell hb1 v1, keepCell hb1 v2, keepCell hb1 v3, keepCell hb1 v4⟩ (fun hS1 => ?_)
 clear hKK KK hS0
 refine step_h (i := 11) rfl (by kernel_rfl) ?_
 intro KK hKK
 have HT1 : Hid (HV w1 T (.slice oL T.ls.length cL) (.slice oM T.vs.length cM)) := hid (HTW.out.onto (vonto hb0 hb1))
 go_simp
 go_wp2_with (go_at_call 63; go_must (refine (HCP.out _ HT1.out).mono ?_; rintro e w2 ⟨X, Y, rfl, hf2, hb2⟩))
 have hv2 := hf2.hv
 obtain ⟨p1, m1, k1, p2, m2, k2, rfl, rfl⟩ := hv_slices hv2
 have hb2 : Below W0.heap.size W0 w2 := vonto hb1 hb2
 have hu2 := ownsRow_below hu1 (by assumption)
 refine hKK.out _ _ ⟨keepCell hb2 q0, keepCell hb2 q1, keepCell hb2 v0, keepCell hb2 v1, keepCell hb2 v2, keepCell hb2 v3, keepCell hb2 v4⟩ (fun hS2 => ?_)
 clear hKK KK hS1
 refine take_h (i := 12) (v := ?_) rfl (by kernel_rfl) (by kernel_rfl) (by kernel_rfl) (fun _ _ _ h => h) (by rfl) ?_ hS2 ?_
 rotate_left
 ·(intro X hX; obtain ⟨hX1, hX2, hX3, hX4, hX5, hX6, hX7⟩ := hX; go_simp; try with_reducible rfl)
 simp only [Act.put, List.setIfInBounds_toArray, List.set_cons_zero, List.set_cons_succ]
 refine step_h (i := 13) rfl (by kernel_rfl) ?_
 intro KK hKK
 go_simp
 have hbx : Below W0.heap.size W0 (w2.alloc (.cells #[.slice ou now.length cu, .int .i64 T.kd, .int .i64 T.nm, .string T.st, .slice p1 m1 k1, .slice p2 m2 k2] 43)) := valloc_bel hb2 _
 refine hKK.out _ _ ⟨keepCell hbx q0, keepCell hbx q1, keepCell hbx v0, keepCell hbx v1, keepCell hbx v2, keepCell hbx v3, keepCell hbx v4⟩ (fun hS3 => ?_)
 clear hKK KK hS2
 refine step_h (i := 14) rfl (by kernel_rfl) ?_
 intro KK hKK
 have hwx := HWK.out.onto hbx
 have hs2 := hb2.size
 have hEl : E.length + 1 ≤ 2000000 := by have := szT_pos T; omega
 refine step_append_lies _ (by rfl) _ _ _ (by rfl) W.heap.size 43 i1 (.agg #[.slice none 0 0, .int .i64 0, .int .i64 0, .string ⟨#[]⟩, .slice none 0 0, .slice none 0 0]) 6 104 Tryz.underlying38 hi' hz0' hz1' hz2' rfl (by decide) _ E.length _ (by rfl) hwx.ps ⟨w2.heap.size, 0, none⟩ 1 1 [.slice ou now.length cu, .int .i64 T.kd, .int .i64 T.nm, .string T.st, .slice p1 m1 k1, .slice p2 m2 k2] (by rfl) rfl (new_cells w2 _ 43) (by intro u hu; simp at hu; rcases hu with rfl | rfl | rfl | rfl | rfl | rfl <;> rfl) (by decide) (by unfold maxLen; omega) (by omega) (by have := hwx.bel.size; exact this) (w2.heap.size + 1) (by simp) ?_
 intro g9 cap9 w9 hown9 hgr9 hat9 hlt9
 have hux : OwnS W (w2.alloc (.cells #[.slice ou now.length cu, .int .i64 T.kd, .int .i64 T.nm, .string T.st, .slice p1 m1 k1, .slice p2 m2 k2] 43)) (.slice ou now.length cu) now := own_base (hu2.alloc _) (by have := HWK.out.bel.size; exact this)
 have hun : (Value.slice ou now.length cu).ownBlock = none ∨ (Value.slice ou now.length cu).ownBlock ≠ (Value.slice on now.length cn).ownBlock := by
  cases hv : (Value.slice ou now.length cu).ownBlock with
  | none => exact .inl rfl
  | some k =>
   refine .inr fun hh => ?_
   have h1 := (hu1.lt k hv).1
   have h2 := (HWK.out.ns.lt k hh.symm).2
   have h3 : W0.drew.heap.size = W0.heap.size := rfl
   omega
 have hd := hwx.more ⟨now, T, .slice ou now.length cu, .slice p1 m1 k1, .slice p2 m2 k2⟩ hux hun ⟨HBR.out, fun w' => hv_bare hv2 HBR.out.1 HBR.out.2⟩ hown9 hgr9
 have hbne := off_ne (own_off hwx.ps hwx.box (by decide))
 have hbx9 := (hgr9.block b hwx.lt hbne).trans hwx.box
 have c90 : w9.cell? ⟨b, 0, none⟩ = some (.slice on now.length cn) := by rw [cell_of_row w9 b 0 _ _ _ hbx9]; rfl
 have c91 : w9.cell? ⟨b, 1, none⟩ = some (.slice op E.length cp) := by rw [cell_of_row w9 b 1 _ _ _ hbx9]; rfl
 have hf9 : w9.frozen? ⟨b, 1, none⟩ = false := by simp [World.frozen?, hbx9]
 have kp9 : ∀ (o : Nat) (u : Value), W0.cell? ⟨w.heap.size, o, none⟩ = some u → w9.cell? ⟨w.heap.size, o, none⟩ = some u := fun o u h => by
  rw [World.cell?_of_block (hgr9.block w.heap.size (by have := hbx.size; omega) (fun e => by have := hpl _ e.symm; omega))]
  exact keepCell hbx h
 refine hKK.out _ _ ⟨c90, c91, kp9 _ _ v0, kp9 _ _ v1, kp9 _ _ v2, kp9 _ _ v3, kp9 _ _ v4⟩ (fun hS4 => ?_)
 clear hKK KK hS3
 simp only [Act.put, List.setIfInBounds_toArray, List.set_cons_zero, List.set_cons_succ]
 refine take_h (i := 15) (v := ?_) rfl (by kernel_rfl) (by kernel_rfl) (by kernel_rfl) (fun _ _ _ h => h) (by rfl) ?_ hS4 ?_
 rotate_left
 ·(intro X hX; obtain ⟨hX1, hX2, hX3, hX4, hX5, hX6, hX7⟩ := hX; go_simp; try with_reducible rfl)
 simp only [Act.put, List.setIfInBounds_toArray, List.set_cons_zero, List.set_cons_succ]
 refine take_h (i := 16) (v := ?_) rfl (by kernel_rfl) (by kernel_rfl) (by kernel_rfl) (fun _ _ _ h => h) (by rfl) ?_ hS4 ?_
 rotate_left
 ·(intro X hX; obtain ⟨hX1, hX2, hX3, hX4, hX5, hX6, hX7⟩ := hX; go_simp; try with_reducible rfl)
 simp only [Act.put, List.setIfInBounds_toArray, List.set_cons_zero, List.set_cons_succ]
 refine wpAnyH_done (by kernel_rfl) ?_ _
 change Oper.wp _ _ _ _ _ _
 have HD := hid hd
 clear hd hgr9 hown9 hS4 hwx hux hun hu1 hu2 hbne hbx9 c90 q0 q1 hpl hat9 hlt9 hi' hz0' hz1' hz2' v0 v1 v2 v3 v4 kp9 hbx hb1 hb2 hv2 hf2
 go_simp
 generalize w9.setCell ⟨b, 1, none⟩ (.slice (some ⟨g9, 0, none⟩) (E.length + 1) cap9) = wA at *
 go_wp2_with fail
 refine bodyPost_end (v := .tuple #[]) (by simp [results, Tryz.results56, go_sem]) rfl ?_
 exact ⟨rfl, _, _, _, HD.out, by rw [HALL.out]; simp [LE.pt]⟩
set_option maxRecDepth 100000 in
set_option maxHeartbeats 4000000 in
theorem lvisit_leafo (W : World) (T : VT) (x y : Value) (b : Nat) (nv pv0 : Value) (now : List PStep) (E : List LE) (w : World) (hP : plainT T = true) (hT : HV W T x y) (hW : Lk W b nv pv0 now E w) (hn : now.length + szT T ≤ 2000000) (hE : E.length + szT T ≤ 2000000) (hsz0 : szT T ≤ 1000000) (hk5 : ¬ T.kd = 5) (hk6 : ¬ T.kd = 6) :
  Calls Tryz.prog 56 #[.pointer (some ⟨b, 0, none⟩), vv T x y] w fun e w' => e = .returned (.tuple #[]) ∧ ∃ nv2 pv2 E2, Lk W b nv2 pv2 now E2 w' ∧ E2.map LE.pt = E.map LE.pt ++ lfT T now := by
 have HN5 := hid (show ¬ (T.kd = 5 ∧ 0 < T.ls.length) by omega)
 have HN6 := hid (show ¬ (T.kd = 6 ∧ 0 < T.vs.length) by omega)
 have t5 : (T.kd == 5) = false := by simpa using hk5
 have t6 : (T.kd == 6) = false := by simpa using hk6
 clear hk5 hk6
 have HALL := hid (show lfT T now = [(now, T)] by rw [lfT_at, if_neg HN5.out, if_neg HN6.out])
 have HBR := hid (leaf_bare hP HN5.out HN6.out)
 have HTW := hid (hT.onto hW.bel)
 obtain ⟨al, bl, f, g, p, q, oL, oM, cL, cM, rfl, rfl, -, -, hL3, hM3, hK, -, hlL, hlM, kL, kK, kM, rL, rM, -, -⟩ := hT.parts
 obtain ⟨i1, hi', hz0', hz1', hz2'⟩ := info_parts Tryz.infoLeaf
 obtain ⟨⟨on, cn, rfl⟩, ⟨op, cp, rfl⟩⟩ := hW.slices
 have HW := hid (fun X (hX : Below w.heap.size w X) => hW.onto hX)
 have hltb := hW.lt
 have HCP := hid (fun (X : World) (hX : HV X T (.slice oL T.ls.length cL) (.slice oM T.vs.length cM)) => vcopy_any (szT T) T (Nat.le_refl _) hsz0 _ _ X hX)
 have HSZ := hid hsz0
 clear hT hW kL kK kM rL rM hK hL3 hM3 HN5 HN6 hP hsz0
 simp only [vv] at HCP ⊢
 go_enter Tryz.func56, Tryz.ntmps56
 go_wp2_with fail
 have hb0 : Below w.heap.size w (w.alloc (.cells #[.int .i64 T.kd, .int .i64 T.nm, .string T.st, .slice oL T.ls.length cL, .slice oM T.vs.length cM] 29)) := valloc_bel (Below.refl _ _) _
 have hc0 : ∀ (o : Nat) (u : Value), [Value.int .i64 T.kd, .int .i64 T.nm, .string T.st, .slice oL T.ls.length cL, .slice oM T.vs.length cM][o]? = some u → (w.alloc (.cells #[.int .i64 T.kd, .int .i64 T.nm, .string T.st, .slice oL T.ls.length cL, .slice oM T.vs.length cM] 29)).cell? ⟨w.heap.size, o, none⟩ = some u := fun o u h => by
  have := new_cells w [Value.int .i64 T.kd, .int .i64 T.nm, .string T.st, .slice oL T.ls.length cL, .slice oM T.vs.length cM] 29 o u h
  rwa [add_at] at this
 have hk0 := hc0 0 _ rfl
 have hk3 := hc0 3 _ rfl
 have hk4 := hc0 4 _ rfl
 clear t5 t6 hk0 hk3 hk4
 have hwk := HW.out _ hb0
 obtain ⟨W0, hw0⟩ : ∃ W0, W0 = (w.alloc (.cells #[.int .i64 T.kd, .int .i64 T.nm, .string T.st, .slice oL T.ls.length cL, .slice oM T.vs.length cM] 29)) := ⟨_, rfl⟩
 rw [← hw0] at hb0 hc0 hwk ⊢
 have hsz0 : W0.heap.size = w.heap.size + 1 := by rw [hw0]; simp
 have hpl : ∀ k, (Value.slice op E.length cp).ownBlock = some k → k < w.heap.size := fun k hk => ((HW.out w (Below.refl _ _)).ps.lt k hk).2
 obtain ⟨q0, q1, -⟩ := hwk.cells
 have v0 := hc0 0 _ rfl
 have v1 := hc0 1 _ rfl
 have v2 := hc0 2 _ rfl
 have v3 := hc0 3 _ rfl
 have v4 := hc0 4 _ rfl
 have HWK := hid hwk
 clear hw0 hc0
 refine wp_region_ends2 (S := fun X => X.cell? ⟨b, 0, none⟩ = some (.slice on now.length cn) ∧ X.cell? ⟨b, 1, none⟩ = some (.slice op E.length cp) ∧ X.cell? ⟨w.heap.size, 0, none⟩ = some (.int .i64 T.kd) ∧ X.cell? ⟨w.heap.size, 1, none⟩ = some (.int .i64 T.nm) ∧ X.cell? ⟨w.heap.size, 2, none⟩ = some (.string T.st) ∧ X.cell? ⟨w.heap.size, 3, none⟩ = some (.slice oL T.ls.length cL) ∧ X.cell? ⟨w.heap.size, 4, none⟩ = some (.slice oM T.vs.length cM)) (by simp) (by kernel_rfl) (by kernel_rfl) (by kernel_rfl) (by kernel_rfl) (by kernel_rfl) (by kernel_rfl) ?_
 simp only [List.dropLast, List.getLast_cons_cons, List.getLast_singleton, List.length_cons, List.length_nil]
 have hS0 : W0.drew.cell? ⟨b, 0, none⟩ = some (.slice on now.length cn) ∧ W0.drew.cell? ⟨b, 1, none⟩ = some (.slice op E.length cp) ∧ W0.drew.cell? ⟨w.heap.size, 0, none⟩ = some (.int .i64 T.kd) ∧ W0.drew.cell? ⟨w.heap.size, 1, none⟩ = some (.int .i64 T.nm) ∧ W0.drew.cell? ⟨w.heap.size, 2, none⟩ = some (.string T.st) ∧ W0.drew.cell? ⟨w.heap.size, 3, none⟩ = some (.slice oL T.ls.length cL) ∧ W0.drew.cell? ⟨w.heap.size, 4, none⟩ = some (.slice oM T.vs.length cM) := ⟨q0, q1, v0, v1, v2, v3, v4⟩
 refine take_h (i := 0) (v := ?_) rfl (by kernel_rfl) (by kernel_rfl) (by kernel_rfl) (fun _ _ _ h => h) (by rfl) ?_ hS0 ?_
 rotate_left
 ·(intro X hX; obtain ⟨hX1, hX2, hX3, hX4, hX5, hX6, hX7⟩ := hX; go_simp; try with_reducible rfl)
 simp only [Act.put, List.setIfInBounds_toArray, List.set_cons_zero, List.set_cons_succ]
 refine take_h (i := 1) (v := ?_) rfl (by kernel_rfl) (by kernel_rfl) (by kernel_rfl) (fun _ _ _ h => h) (by rfl) ?_ hS0 ?_
 rotate_left
 ·(intro X hX; obtain ⟨hX1, hX2, hX3, hX4, hX5, hX6, hX7⟩ := hX; go_simp; try with_reducible rfl)
 simp only [Act.put, List.setIfInBounds_toArray, List.set_cons_zero, List.set_cons_succ]
 refine take_h (i := 2) (v := ?_) rfl (by kernel_rfl) (by kernel_rfl) (by kernel_rfl) (fun _ _ _ h => h) (by rfl) ?_ hS0 ?_
 rotate_left
 ·(intro X hX; obtain ⟨hX1, hX2, hX3, hX4, hX5, hX6, hX7⟩ := hX; go_simp; try with_reducible rfl)
 simp only [Act.put, List.setIfInBounds_toArray, List.set_cons_zero, List.set_cons_succ]
 refine take_h (i := 3) (v := ?_) rfl (by kernel_rfl) (by kernel_rfl) (by kernel_rfl) (fun _ _ _ h => h) (by rfl) ?_ hS0 ?_
 rotate_left
 ·(intro X hX; obtain ⟨hX1, hX2, hX3, hX4, hX5, hX6, hX7⟩ := hX; go_simp; try with_reducible rfl)
 simp only [Act.put, List.setIfInBounds_toArray, List.set_cons_zero, List.set_cons_succ]
 refine take_h (i := 4) (v := ?_) rfl (by kernel_rfl) (by kernel_rfl) (by kernel_rfl) (fun _ _ _ h => h) (by rfl) ?_ hS0 ?_
 rotate_left
 ·(intro X hX; obtain ⟨hX1, hX2, hX3, hX4, hX5, hX6, hX7⟩ := hX; go_simp; try with_reducible rfl)
 simp only [Act.put, List.setIfInBounds_toArray, List.set_cons_zero, List.set_cons_succ]
 refine take_h (i := 5) (v := ?_) rfl (by kernel_rfl) (by kernel_rfl) (by kernel_rfl) (fun _ _ _ h => h) (by rfl) ?_ hS0 ?_
 rotate_left
 ·(intro X hX; obtain ⟨hX1, hX2, hX3, hX4, hX5, hX6, hX7⟩ := hX; go_simp; try with_reducible rfl)
 simp only [Act.put, List.setIfInBounds_toArray, List.set_cons_zero, List.set_cons_succ]
 refine take_h (i := 6) (v := ?_) rfl (by kernel_rfl) (by kernel_rfl) (by kernel_rfl) (fun _ _ _ h => h) (by rfl) ?_ hS0 ?_
 rotate_left
 ·(intro X hX; obtain ⟨hX1, hX2, hX3, hX4, hX5, hX6, hX7⟩ := hX; go_simp; try with_reducible rfl)
 simp only [Act.put, List.setIfInBounds_toArray, List.set_cons_zero, List.set_cons_succ]
 refine take_h (i := 7) (v := ?_) rfl (by kernel_rfl) (by kernel_rfl) (by kernel_rfl) (fun _ _ _ h => h) (by rfl) ?_ hS0 ?_
 rotate_left
 ·(intro X hX; obtain ⟨hX1, hX2, hX3, hX4, hX5, hX6, hX7⟩ := hX; go_simp; try with_reducible rfl)
 simp only [Act.put, List.setIfInBounds_toArray, List.set_cons_zero, List.set_cons_succ]
 refine take_h (i := 8) (v := ?_) rfl (by kernel_rfl) (by kernel_rfl) (by kernel_rfl) (fun _ _ _ h => h) (by rfl) ?_ hS0 ?_
 rotate_left
 ·(intro X hX; obtain ⟨hX1, hX2, hX3, hX4, hX5, hX6, hX7⟩ := hX; go_simp; try with_reducible rfl)
 simp only [Act.put, List.setIfInBounds_toArray, List.set_cons_zero, List.set_cons_succ]
 refine take_h (i := 10) (v := ?_) rfl (by kernel_rfl) (by kernel_rfl) (by kernel_rfl) (fun _ _ _ h => h) (by rfl) ?_ hS0 ?_
 rotate_left
 ·(intro X hX; obtain ⟨hX1, hX2, hX3, hX4, hX5, hX6, hX7⟩ := hX; go_simp; try with_reducible rfl)
 simp only [Act.put, List.setIfInBounds_toArray, List.set_cons_zero, List.set_cons_succ]
 refine step_h (i := 9) rfl (by kernel_rfl) ?_
 intro KK hKK
 have HC := hid (pclone_any now _ _ W0.drew HWK.out.ns (by omega))
 go_simp
 go_wp2_with (go_at_call 103; go_must (refine HC.out.mono ?_; rintro e w1 ⟨u, rfl, hu1, hb1⟩))
 obtain ⟨ou, cu, rfl⟩ := own_slice hu1
 replace hb1 : Below W0.heap.size W0 w1 := (Below.refl W0.heap.size W0).drew.trans hb1
 refine hKK.out _ _ ⟨keepCell hb1 q0, keepCell hb1 q1, keepCell hb1 v0, keepCell hb1 v1, keepCell hb1 v2, keepCell hb1 v3, keepCell hb1 v4⟩ (fun hS1 => ?_)
 clear hKK KK hS0
 refine step_h (i := 11) rfl (by kernel_rfl) ?_
 intro KK hKK
 have HT1 : Hid (HV w1 T (.slice oL T.ls.length cL) (.slice oM T.vs.length cM)) := hid (HTW.out.onto (vonto hb0 hb1))
 go_simp
 go_wp2_with (go_at_call 63; go_must (refine (HCP.out _ HT1.out).mono ?_; rintro e w2 ⟨X, Y, rfl, hf2, hb2⟩))
 have hv2 := hf2.hv
 obtain ⟨p1, m1, k1, p2, m2, k2, rfl, rfl⟩ := hv_slices hv2
 have hb2 : Below W0.heap.size W0 w2 := vonto hb1 hb2
 have hu2 := ownsRow_below hu1 (by assumption)
 refine hKK.out _ _ ⟨keepCell hb2 q0, keepCell hb2 q1, keepCell hb2 v0, keepCell hb2 v1, keepCell hb2 v2, keepCell hb2 v3, keepCell hb2 v4⟩ (fun hS2 => ?_)
 clear hKK KK hS1
 refine take_h (i := 12) (v := ?_) rfl (by kernel_rfl) (by kernel_rfl) (by kernel_rfl) (fun _ _ _ h => h) (by rfl) ?_ hS2 ?_
 rotate_left
 ·(intro X hX; obtain ⟨hX1, hX2, hX3, hX4, hX5, hX6, hX7⟩ := hX; go_simp; try with_reducible rfl)
 simp only [Act.put, List.setIfInBounds_toArray, List.set_cons_zero, List.set_cons_succ]
 refine step_h (i := 13) rfl (by kernel_rfl) ?_
 intro KK hKK
 go_simp
 have hbx : Below W0.heap.size W0 (w2.alloc (.cells #[.slice ou now.length cu, .int .i64 T.kd, .int .i64 T.nm, .string T.st, .slice p1 m1 k1, .slice p2 m2 k2] 43)) := valloc_bel hb2 _
 refine hKK.out _ _ ⟨keepCell hbx q0, keepCell hbx q1, keepCell hbx v0, keepCell hbx v1, keepCell hbx v2, keepCell hbx v3, keepCell hbx v4⟩ (fun hS3 => ?_)
 clear hKK KK hS2
 refine step_h (i := 14) rfl (by kernel_rfl) ?_
 intro KK hKK
 have hwx := HWK.out.onto hbx
 have hs2 := hb2.size
 have hEl : E.length + 1 ≤ 2000000 := by have := szT_pos T; omega
 refine step_append_lies _ (by rfl) _ _ _ (by rfl) W.heap.size 43 i1 (.agg #[.slice none 0 0, .int .i64 0, .int .i64 0, .string ⟨#[]⟩, .slice none 0 0, .slice none 0 0]) 6 104 Tryz.underlying38 hi' hz0' hz1' hz2' rfl (by decide) _ E.length _ (by rfl) hwx.ps ⟨w2.heap.size, 0, none⟩ 1 1 [.slice ou now.length cu, .int .i64 T.kd, .int .i64 T.nm, .string T.st, .slice p1 m1 k1, .slice p2 m2 k2] (by rfl) rfl (new_cells w2 _ 43) (by intro u hu; simp at hu; rcases hu with rfl | rfl | rfl | rfl | rfl | rfl <;> rfl) (by decide) (by unfold maxLen; omega) (by omega) (by have := hwx.bel.size; exact this) (w2.heap.size + 1) (by simp) ?_
 intro g9 cap9 w9 hown9 hgr9 hat9 hlt9
 have hux : OwnS W (w2.alloc (.cells #[.slice ou now.length cu, .int .i64 T.kd, .int .i64 T.nm, .string T.st, .slice p1 m1 k1, .slice p2 m2 k2] 43)) (.slice ou now.length cu) now := own_base (hu2.alloc _) (by have := HWK.out.bel.size; exact this)
 have hun : (Value.slice ou now.length cu).ownBlock = none ∨ (Value.slice ou now.length cu).ownBlock ≠ (Value.slice on now.length cn).ownBlock := by
  cases hv : (Value.slice ou now.length cu).ownBlock with
  | none => exact .inl rfl
  | some k =>
   refine .inr fun hh => ?_
   have h1 := (hu1.lt k hv).1
   have h2 := (HWK.out.ns.lt k hh.symm).2
   have h3 : W0.drew.heap.size = W0.heap.size := rfl
   omega
 have hd := hwx.more ⟨now, T, .slice ou now.length cu, .slice p1 m1 k1, .slice p2 m2 k2⟩ hux hun ⟨HBR.out, fun w' => hv_bare hv2 HBR.out.1 HBR.out.2⟩ hown9 hgr9
 have hbne := off_ne (own_off hwx.ps hwx.box (by decide))
 have hbx9 := (hgr9.block b hwx.lt hbne).trans hwx.box
 have c90 : w9.cell? ⟨b, 0, none⟩ = some (.slice on now.length cn) := by rw [cell_of_row w9 b 0 _ _ _ hbx9]; rfl
 have c91 : w9.cell? ⟨b, 1, none⟩ = some (.slice op E.length cp) := by rw [cell_of_row w9 b 1 _ _ _ hbx9]; rfl
 have hf9 : w9.frozen? ⟨b, 1, none⟩ = false := by simp [World.frozen?, hbx9]
 have kp9 : ∀ (o : Nat) (u : Value), W0.cell? ⟨w.heap.size, o, none⟩ = some u → w9.cell? ⟨w.heap.size, o, none⟩ = some u := fun o u h => by
  rw [World.cell?_of_block (hgr9.block w.heap.size (by have := hbx.size; omega) (fun e => by have := hpl _ e.symm; omega))]
  exact keepCell hbx h
 refine hKK.out _ _ ⟨c90, c91, kp9 _ _ v0, kp9 _ _ v1, kp9 _ _ v2, kp9 _ _ v3, kp9 _ _ v4⟩ (fun hS4 => ?_)
 clear hKK KK hS3
 simp only [Act.put, List.setIfInBounds_toArray, List.set_cons_zero, List.set_cons_succ]
 refine take_h (i := 15) (v := ?_) rfl (by kernel_rfl) (by kernel_rfl) (by kernel_rfl) (fun _ _ _ h => h) (by rfl) ?_ hS4 ?_
 rotate_left
 ·(intro X hX; obtain ⟨hX1, hX2, hX3, hX4, hX5, hX6, hX7⟩ := hX; go_simp; try with_reducible rfl)
 simp only [Act.put, List.setIfInBounds_toArray, List.set_cons_zero, List.set_cons_succ]
 refine take_h (i := 16) (v := ?_) rfl (by kernel_rfl) (by kernel_rfl) (by kernel_rfl) (fun _ _ _ h => h) (by rfl) ?_ hS4 ?_
 rotate_left
 ·(intro X hX; obtain ⟨hX1, hX2, hX3, hX4, hX5, hX6, hX7⟩ := hX; go_simp; try with_reducible rfl)
 simp only [Act.put, List.setIfInBounds_toArray, List.set_cons_zero, List.set_cons_succ]
 refine wpAnyH_done (by kernel_rfl) ?_ _
 change Oper.wp _ _ _ _ _ _
 have HD := hid hd
 clear hd hgr9 hown9 hS4 hwx hux hun hu1 hu2 hbne hbx9 c90 q0 q1 hpl hat9 hlt9 hi' hz0' hz1' hz2' v0 v1 v2 v3 v4 kp9 hbx hb1 hb2 hv2 hf2
 go_simp
 generalize w9.setCell ⟨b, 1, none⟩ (.slice (some ⟨g9, 0, none⟩) (E.length + 1) cap9) = wA at *
 go_wp2_with fail
 refine bodyPost_end (v := .tuple #[]) (by simp [results, Tryz.results56, go_sem]) rfl ?_
 exact ⟨rfl, _, _, _, HD.out, by rw [HALL.out]; simp [LE.pt]⟩
end Go.Proofs.YteimbjamnfkapaaGreatDoor
/- flat: a node visited: another way. -/
namespace Go.Proofs.YteimbjamnfkapaaGreatDoor
open Go.RowKit
set_option maxRecDepth 100000 in
set_option maxHeartbeats 4000000 in
theorem lvisit_list (W : World) (T : VT) (x y : Value) (b : Nat) (nv pv0 : Value) (now : List PStep) (E : List LE) (w : World) (hP : plainT T = true) (hT : HV W T x y) (hW : Lk W b nv pv0 now E w) (hn : now.length + szT T ≤ 2000000) (hE : E.length + szT T ≤ 2000000) (hsz0 : szT T ≤ 1000000) (HIH : Hid (∀ t, szT t < szT T → LVisitOk W t)) (hk5 : T.kd = 5) (hl0 : 0 < T.ls.length) :
  Calls Tryz.prog 56 #[.pointer (some ⟨b, 0, none⟩), vv T x y] w fun e w' => e = .returned (.tuple #[]) ∧ ∃ nv2 pv2 E2, Lk W b nv2 pv2 now E2 w' ∧ E2.map LE.pt = E.map LE.pt ++ lfT T now := by
 have HALL := hid (show lfT T now = lfL T.ls 0 now by rw [lfT_at, if_pos ⟨hk5, hl0⟩])
 have t5 : (T.kd == 5) = true := by simpa using hk5
 have hl1 : ((0 : Int) < (T.ls.length : Int)) := by omega
 clear hk5
 obtain ⟨al, bl, f, g, p, q, oL, oM, cL, cM, rfl, rfl, -, -, hL3, hM3, hK, -, hlL, hlM, kL, kK, kM, rL, rM, -, -⟩ := hT.parts
 obtain ⟨⟨on, cn, rfl⟩, ⟨op, cp, rfl⟩⟩ := hW.slices
 have HW := hid (fun X (hX : Below w.heap.size w X) => hW.onto hX)
 have hltb := hW.lt
 have HkL := hid kL; have HkK := hid kK; have HkM := hid kM; have HrL := hid rL; have HrM := hid rM; have HKL := hid hK
 have HPT := hid hP
 have hsz := szT_at T
 have hlen := len_sz T
 obtain rfl := hL3 hl0
 clear hL3 hM3 hT hW kL kK kM rL rM hK hP
 simp only [vv]
 go_enter Tryz.func56, Tryz.ntmps56
 go_wp2_with fail
 have hb0 : Below w.heap.size w (w.alloc (.cells #[.int .i64 T.kd, .int .i64 T.nm, .string T.st, .slice (some al) T.ls.length cL, .slice oM T.vs.length cM] 29)) := valloc_bel (Below.refl _ _) _
 have HD := hid (HW.out _ hb0)
 go_loopw [38] (fun i wr => ∃ (j : Nat) (nv2 pv2 : Value) (E2 : List LE), i = .int .i64 j ∧ j ≤ T.ls.length ∧ Hid (Lk W b nv2 pv2 now E2 wr) ∧ Hid (E2.map LE.pt = E.map LE.pt ++ lfL (T.ls.take j) 0 now)) (fun i _ => T.ls.length - (intOf i).toNat)
 case atStart => exact ⟨0, _, _, E, rfl, Nat.zero_le _, HD.out, hid (by simp [lfL])⟩
 case round =>
  obtain ⟨j, nv2, pv2, E2, rfl, hj, HK2, HE2⟩ := hrel
  by_cases hlt : j < T.ls.length
  ·obtain ⟨t, ht⟩ : ∃ t, T.ls[j]? = some t := ⟨T.ls[j], List.getElem?_eq_getElem hlt⟩
   obtain ⟨d0, d1, d2, d3, d4⟩ := (HkL.out j t ht).onto HK2.out.bel
   obtain ⟨o1, n1, c1, o2, n2, c2, hf, hg⟩ := hv_slices (HrL.out j t ht)
   rw [hf] at d3
   rw [hg] at d4
   have hsm := szT_ls T j t ht
   have hE2 := map_len HE2.out
   simp only [List.length_append, List.length_map] at hE2
   have ha1 := lfL_len (T.ls.take j) 0 now
   have ha2 := szL_take_succ T.ls j t ht
   have ha3 := szL_take_le T.ls (j + 1)
   have C := hid (fun (X : World) (hX : Below wr.heap.size wr X) => lenter_any W t (HIH.out t hsm) (lpl j) _ _ b nv2 pv2 now E2 X (plain_ls HPT.out ht) (HrL.out j t ht) (HK2.out.onto hX) (by omega) (by omega))
   rw [hf, hg] at C
   simp only [vv, pv, lpl] at C
   have HSN := hid (show lfL (T.ls.take (j + 1)) 0 now = lfL (T.ls.take j) 0 now ++ lfT t (now ++ [lpl j]) by
    rw [List.take_add_one, ht]
    show lfL (T.ls.take j ++ [t]) 0 now = _
    rw [lfL_snoc, List.length_take, Nat.min_eq_left hj, Nat.zero_add])
   clear ht hf hg hE2 ha1 ha2 ha3 hsm
   go_wp2_with fail
   go_at_call 102
   refine (C.out _ (valloc_bel (Below.refl _ _) _)).mono ?_
   rintro e w2 ⟨rfl, nv3, pv3, E3, hk3, he3⟩
   have HK3 := hid hk3
   have HE3 := hid he3
   clear hk3 he3 C
   go_wp2_with fail
   go_roundw
   case rel => exact ⟨j + 1, nv3, pv3, E3, val_int (by omega), hlt, HK3.out, hid (by rw [HSN.out, HE3.out, HE2.out]; simp [lpl])⟩
   case measure => simp [intOf]; omega
  ·have htk : T.ls.take j = T.ls := List.take_of_length_le (by omega)
   rw [htk] at HE2
   clear htk
   go_wp2_with fail
   refine bodyPost_end (v := .tuple #[]) (by simp [results, Tryz.results56, go_sem]) rfl ?_
   exact ⟨rfl, _, _, E2, HK2.out, by rw [HE2.out, HALL.out]⟩
end Go.Proofs.YteimbjamnfkapaaGreatDoor
/- flat: a node visited: another way. -/
namespace Go.Proofs.YteimbjamnfkapaaGreatDoor
open Go.RowKit
set_option maxRecDepth 100000 in
set_option maxHeartbeats 4000000 in
theorem lvisit_map (W : World) (T : VT) (x y : Value) (b : Nat) (nv pv0 : Value) (now : List PStep) (E : List LE) (w : World) (hP : plainT T = true) (hT : HV W T x y) (hW : Lk W b nv pv0 now E w) (hn : now.length + szT T ≤ 2000000) (hE : E.length + szT T ≤ 2000000) (hsz0 : szT T ≤ 1000000) (HIH : Hid (∀ t, szT t < szT T → LVisitOk W t)) (hk6 : T.kd = 6) (hl0 : 0 < T.vs.length) :
  Calls Tryz.prog 56 #[.pointer (some ⟨b, 0, none⟩), vv T x y] w fun e w' => e = .returned (.tuple #[]) ∧ ∃ nv2 pv2 E2, Lk W b nv2 pv2 now E2 w' ∧ E2.map LE.pt = E.map LE.pt ++ lfT T now := by
 have HALL := hid (show lfT T now = lfM T.vs T.ks now by rw [lfT_at, if_neg (by omega), if_pos ⟨hk6, hl0⟩])
 have t5 : (T.kd == 5) = false := by simp; omega
 have t6 : (T.kd == 6) = true := by simpa using hk6
 have hl1 : ((0 : Int) < (T.vs.length : Int)) := by omega
 clear hk6
 obtain ⟨al, bl, f, g, p, q, oL, oM, cL, cM, rfl, rfl, -, -, hL3, hM3, hK, -, hlL, hlM, kL, kK, kM, rL, rM, -, -⟩ := hT.parts
 obtain ⟨⟨on, cn, rfl⟩, ⟨op, cp, rfl⟩⟩ := hW.slices
 have HW := hid (fun X (hX : Below w.heap.size w X) => hW.onto hX)
 have hltb := hW.lt
 have HkL := hid kL; have HkK := hid kK; have HkM := hid kM; have HrL := hid rL; have HrM := hid rM; have HKL := hid hK
 have HPT := hid hP
 have hsz := szT_at T
 have hlen := len_sz T
 obtain rfl := hM3 hl0
 clear hL3 hM3 hT hW kL kK kM rL rM hK hP
 simp only [vv]
 go_enter Tryz.func56, Tryz.ntmps56
 go_wp2_with fail
 have hb0 : Below w.heap.size w (w.alloc (.cells #[.int .i64 T.kd, .int .i64 T.nm, .string T.st, .slice oL T.ls.length cL, .slice (some bl) T.vs.length cM] 29)) := valloc_bel (Below.refl _ _) _
 have HD := hid (HW.out _ hb0)
 go_loopw [62] (fun i wr => ∃ (j : Nat) (nv2 pv2 : Value) (E2 : List LE), i = .int .i64 j ∧ j ≤ T.vs.length ∧ Hid (Lk W b nv2 pv2 now E2 wr) ∧ Hid (E2.map LE.pt = E.map LE.pt ++ lfM (T.vs.take j) T.ks now)) (fun i _ => T.vs.length - (intOf i).toNat)
 case atStart => exact ⟨0, _, _, E, rfl, Nat.zero_le _, HD.out, hid (by simp [lfM])⟩
 case round =>
  obtain ⟨j, nv2, pv2, E2, rfl, hj, HK2, HE2⟩ := hrel
  by_cases hlt : j < T.vs.length
  ·obtain ⟨t, ht⟩ : ∃ t, T.vs[j]? = some t := ⟨T.vs[j], List.getElem?_eq_getElem hlt⟩
   obtain ⟨key, hkey⟩ : ∃ c, T.ks[j]? = some c := ⟨T.ks[j]'(by have := HKL.out; omega), List.getElem?_eq_getElem _⟩
   obtain ⟨d0, d1, d2, d3, d4⟩ := (HkM.out j t ht).onto HK2.out.bel
   have dk := keepCell HK2.out.bel (HkK.out j key hkey).1
   obtain ⟨o1, n1, c1, o2, n2, c2, hf, hg⟩ := hv_slices (HrM.out j t ht)
   rw [hf] at d3
   rw [hg] at d4
   simp only [nx] at d0 d1 d2 d3 d4
   have hsm := szT_vs T j t ht
   have hE2 := map_len HE2.out
   simp only [List.length_append, List.length_map] at hE2
   have ha1 := lfM_len (T.vs.take j) T.ks now
   have ha2 := szL_take_succ T.vs j t ht
   have ha3 := szL_take_le T.vs (j + 1)
   have C := hid (fun (X : World) (hX : Below wr.heap.size wr X) => lenter_any W t (HIH.out t hsm) (lky key) _ _ b nv2 pv2 now E2 X (plain_vs HPT.out ht) (HrM.out j t ht) (HK2.out.onto hX) (by omega) (by omega))
   rw [hf, hg] at C
   simp only [vv, pv, lky] at C
   have HSN := hid (show lfM (T.vs.take (j + 1)) T.ks now = lfM (T.vs.take j) T.ks now ++ lfT t (now ++ [lky key]) by
    rw [List.take_add_one, ht]
    show lfM (T.vs.take j ++ [t]) T.ks now = _
    rw [lfM_snoc t now _ _ key (by rw [List.length_take, Nat.min_eq_left hj]; exact hkey)])
   clear ht hf hg hE2 ha1 ha2 ha3 hsm hkey
   go_wp2_with fail
   go_at_call 102
   refine (C.out _ (valloc_bel (Below.refl _ _) _)).mono ?_
   rintro e w2 ⟨rfl, nv3, pv3, E3, hk3, he3⟩
   have HK3 := hid hk3
   have HE3 := hid he3
   clear hk3 he3 C
   go_wp2_with fail
   go_roundw
   case rel => exact ⟨j + 1, nv3, pv3, E3, val_int (by omega), hlt, HK3.out, hid (by rw [HSN.out, HE3.out, HE2.out]; simp [lky])⟩
   case measure => simp [intOf]; omega
  ·have htk : T.vs.take j = T.vs := List.take_of_length_le (by omega)
   rw [htk] at HE2
   clear htk
   go_wp2_with fail
   refine bodyPost_end (v := .tuple #[]) (by simp [results, Tryz.results56, go_sem]) rfl ?_
   exact ⟨rfl, _, _, E2, HK2.out, by rw [HE2.out, HALL.out]⟩
end Go.Proofs.YteimbjamnfkapaaGreatDoor
/- flat: a node visited, every way; Leaves. -/
namespace Go.Proofs.YteimbjamnfkapaaGreatDoor
open Go.RowKit
theorem lvisit_any (W : World) : ∀ (N : Nat) (T : VT), szT T ≤ N → szT T ≤ 1000000 → LVisitOk W T := by
 intro N
 induction N with
 | zero => intro T h; have := szT_pos T; omega
 | succ N ih =>
 intro T hN hm hP x y b nv pv0 now E w hT hW hn hE
 have HIH : Hid (∀ t, szT t < szT T → LVisitOk W t) := hid (fun t ht => ih t (by omega) (by omega))
 by_cases h5 : T.kd = 5
 ·by_cases hl : 0 < T.ls.length
  ·exact lvisit_list W T x y b nv pv0 now E w hP hT hW hn hE hm HIH h5 hl
  ·exact lvisit_leaf5 W T x y b nv pv0 now E w hP hT hW hn hE hm h5 (by omega)
 ·by_cases h6 : T.kd = 6
  ·by_cases hl : 0 < T.vs.length
   ·exact lvisit_map W T x y b nv pv0 now E w hP hT hW hn hE hm HIH h6 hl
   ·exact lvisit_leaf6 W T x y b nv pv0 now E w hP hT hW hn hE hm h6 (by omega)
  ·exact lvisit_leafo W T x y b nv pv0 now E w hP hT hW hn hE hm h5 h6
set_option maxRecDepth 100000 in
set_option maxHeartbeats 1000000 in
theorem leaves_any (T : VT) (x y : Value) (w : World) (hT : HV w T x y) (hP : plainT T = true) (hm : szT T ≤ 1000000) :
  Calls Tryz.prog 23 #[vv T x y] w fun e w' => ∃ v E, e = .returned v ∧ OwnF w w' v E ∧ (∀ e ∈ E, OwnS w w' e.u e.p ∧ Bare e) ∧ E.map LE.pt = lfT T [] ∧ Below w.heap.size w w' := by
 obtain ⟨o1, n1, c1, o2, n2, c2, rfl, rfl⟩ := hv_slices hT
 have HN := hid (lk_new w (.cells #[.int .i64 T.kd, .int .i64 T.nm, .string T.st, .slice o1 n1 c1, .slice o2 n2 c2] 29))
 have HC := hid (lvisit_any w (szT T) T (Nat.le_refl _) hm hP _ _ _ _ _ _ _ _ hT HN.out (by simp; omega) (by simp; omega))
 simp only [vv] at HC ⊢
 clear hT
 go_enter Tryz.func23, Tryz.ntmps23
 go_wp2_with fail
 go_at_call 56
 refine HC.out.mono ?_
 rintro e w1 ⟨rfl, nv2, pv2, E2, hk, he⟩
 obtain ⟨q0, q1, -⟩ := hk.cells
 obtain ⟨⟨oa, ca, rfl⟩, ⟨ob, cb, rfl⟩⟩ := hk.slices
 have HK := hid hk
 have HE := hid he
 clear hk he HC HN
 go_wp2_with fail
 go_ret
 exact ⟨_, E2, rfl, HK.out.ps, fun e he => ⟨(HK.out.es e he).1, HK.out.bs e he⟩, by rw [HE.out]; rfl, HK.out.bel⟩
end Go.Proofs.YteimbjamnfkapaaGreatDoor
