import Derived.Test.YtjcejjejlekelaaGreatDoorRef5P
/- The document's side: what is set at a place of a list. -/
/- The document's side: what is set at a key. -/
namespace Go.Proofs.YtjcejjejlekelaaGreatDoor
open Go.RowKit

set_option maxRecDepth 100000 in
set_option maxHeartbeats 4000000 in
theorem set5_place (r : List PStep) (hih : Set5Ok r) (i : Nat) (hi9 : i ≤ 1000000000) (T U : VT) (x y x' y' v : Value) (w : World) (hpl : plainT T = true) (hsz : szT T ≤ 100000) (hszU : szT U ≤ 1000000) (hT : HV w T x y) (hU : HV w U x' y')
    (hp : InP w (⟨⟨#[]⟩, (i : Int), true⟩ :: r) v) (hf : ∀ s ∈ r, Frm s) (hl : r.length + 1 ≤ 1000000) :
    Calls Tryz.prog 29 #[vv T x y, v, vv U x' y'] w fun e w' => Set5 (setP T (⟨⟨#[]⟩, (i : Int), true⟩ :: r) U) w e w' := by
  have HIH := hid hih
  have HT := hid hT
  have HU := hid hU
  have HF := hid hf
  have HPL := hid hpl
  have HP := hid hp
  obtain ⟨a, ⟨op, cp, rfl, hp1, hp2, hp3⟩, hpc⟩ := hp
  obtain rfl := hp3 (by simp)
  unfold maxLen at hp2
  obtain ⟨s0, s1, s2, -⟩ := hpc 0 _ rfl
  rw [add_z5] at s0 s1 s2
  obtain ⟨aL, bM, f, g, pp, qq, o1, o2, c1, c2, rfl, rfl, -, -, hoL, hoM, hK, -, hLc, hMc, cLn, -, -, rL, -, -, -⟩ := HT.out.parts
  obtain ⟨o3, n3, c3, o4, n4, c4, rfl, rfl⟩ := hv_slices hU
  have CLN := hid cLn
  have RL := hid rL
  clear cLn rL hoM hMc hK hpl
  have ST0 := hid (s5_new w T (.slice o1 T.ls.length c1) (.slice o2 T.vs.length c2) U (.slice o3 n3 c3) (.slice o4 n4 c4))
  have t0 := keepCell ST0.out.bel s0
  have t1 := keepCell ST0.out.bel s1
  have t2 := keepCell ST0.out.bel s2
  clear hih hT hU hf hpc hp3 s0 s1 s2
  simp only [vv]
  simp only [List.length_cons] at hp1 ⊢
  go_enter Tryz.func29, Tryz.ntmps29
  go_wp2_with fail
  have hsz0 : (((w.alloc (.cells #[.int .i64 T.kd, .int .i64 T.nm, .string T.st, .slice o1 T.ls.length c1, .slice o2 T.vs.length c2] 31)).alloc (.cells #[.int .i64 U.kd, .int .i64 U.nm, .string U.st, .slice o3 n3 c3, .slice o4 n4 c4] 31)).alloc (.cells #[.int .i64 0, .int .i64 0, .string ⟨#[]⟩, .slice none 0 0, .slice none 0 0] 31)).heap.size = w.heap.size + 1 + 1 + 1 := by simp
  clear t0 t1 t2
  generalize (((w.alloc (.cells #[.int .i64 T.kd, .int .i64 T.nm, .string T.st, .slice o1 T.ls.length c1, .slice o2 T.vs.length c2] 31)).alloc (.cells #[.int .i64 U.kd, .int .i64 U.nm, .string U.st, .slice o3 n3 c3, .slice o4 n4 c4] 31)).alloc (.cells #[.int .i64 0, .int .i64 0, .string ⟨#[]⟩, .slice none 0 0, .slice none 0 0] 31)) = W0 at ST0 hsz0 ⊢
  have hal := valloc_bel (Below.refl W0.heap.size W0) (.cells #[.string ⟨#[]⟩, .int .i64 (i : Int), .bool true] 79)
  have hsb : Sb (W0.alloc (.cells #[.string ⟨#[]⟩, .int .i64 (i : Int), .bool true] 79)) (w.heap.size + 1 + 1 + 1) ⟨⟨#[]⟩, (i : Int), true⟩ := by
    rw [← hsz0]; exact ⟨by simp, by simp, by simp⟩
  have ST1 := hid (ST0.out.on hal)
  have hsz1 : (W0.alloc (.cells #[.string ⟨#[]⟩, .int .i64 (i : Int), .bool true] 79)).heap.size = w.heap.size + 4 := by rw [World.size_alloc, hsz0]
  generalize (W0.alloc (.cells #[.string ⟨#[]⟩, .int .i64 (i : Int), .bool true] 79)) = W1 at hsb ST1 hsz1 ⊢
  clear hal hsz0 ST0
  have CC := hid (rcopy2_any (szT T) T (Nat.le_refl _) (by omega) (.slice o1 T.ls.length c1) (.slice o2 T.vs.length c2) W1 (HT.out.onto ST1.out.bel))
  simp only [vv] at CC
  go_at_call 26
  refine CC.out.mono ?_
  rintro e w1 ⟨X, Y, rfl, hx, hb1, hco⟩
  obtain ⟨y1, z1, d1, y2, z2, d2, rfl, rfl⟩ := hv_slices hx.hv
  rw [hsz1] at hx hco
  have hs1 := hb1.size
  have hal := valloc_bel (Below.refl w1.heap.size w1) (.cells #[.int .i64 T.kd, .int .i64 T.nm, .string T.st, .slice y1 z1 d1, .slice y2 z2 d2] 31)
  have ST2 := hid ((ST1.out.on hb1).on hal)
  have SB2 := hid ((hsb.onto hb1).onto hal)
  have CB2 := hid (bx_new hx.hv 31)
  have CR2 := hid (Row.new w1 #[.int .i64 T.kd, .int .i64 T.nm, .string T.st, .slice y1 z1 d1, .slice y2 z2 d2] 31)
  have CO2 := hid (fun (h : T.vs.length = 0) => by obtain ⟨E, h1, h2⟩ := hco h; have h1 := h1.wide (lo' := w.heap.size + 4) (by omega); exact (⟨E, h1.on hal, h2, h1⟩ : ∃ E, Copied _ (w.heap.size + 4) (.slice y1 z1 d1) T.ls T.ls.length E ∧ Value.slice y2 z2 d2 = .slice none 0 0 ∧ Copied w1 (w.heap.size + 4) (.slice y1 z1 d1) T.ls T.ls.length E))
  have hsz2 := World.size_alloc w1 (.cells #[.int .i64 T.kd, .int .i64 T.nm, .string T.st, .slice y1 z1 d1, .slice y2 z2 d2] 31)
  clear hco CC hx ST1 hsb hb1 hal
  obtain ⟨⟨q0, q1, q2, q3, q4⟩, qf⟩ := ST2.out.zero
  obtain ⟨b0, b1, b2, b3, b4⟩ := ST2.out.node
  have f1 := SB2.out.c1
  have f2 := SB2.out.c2
  simp only [Nat.zero_add] at b0 b1 b2 b3 b4
  have HRR := hid (z5_put ST2.out.zero zeroT (.slice none 0 0) (.slice none 0 0))
  simp only [put5, Nat.zero_add, zeroT, VT.kd, VT.nm, VT.st] at HRR
  by_cases h5 : T.kd = 5
  · have HVS := hid (show T.vs.length = 0 by rw [(plain_list HPL.out h5).2.2]; rfl)
    replace b0 := b0.trans (congrArg (fun z => some (Value.int .i64 z)) h5)
    have H5 := hid h5
    clear h5
    by_cases hgt : T.ls.length < i
    · have HNO := hid (setP_no (T := T) (s := ⟨⟨#[]⟩, (i : Int), true⟩) (r := r) (x := U) (by unfold idxT; rw [if_pos rfl, if_neg (by simp; omega)]) (fun _ => by
        unfold putT idxT; simp only [if_true]; rw [if_neg (by omega)]; simp only; rw [if_neg (by omega)]))
      go_wp2_with fail
      obtain ⟨r0, r1, r2, r3, r4⟩ := HRR.out
      refine bodyPost_ret (v := .tuple #[vv zeroT (.slice none 0 0) (.slice none 0 0), .bool false]) (by simp [results, Tryz.results29, go_sem, vv, zeroT, VT.kd, VT.nm, VT.st, r0, r1, r2, r3, r4]) rfl ⟨zeroT, _, _, by rw [HNO.out]; rfl, by rw [HNO.out]; rfl, hs_zero _ _, ?_⟩
      exact box5_bel ST2.out.bel _ (by omega) _ _ _ _ _
    by_cases heq : i = T.ls.length
    · cases r with
      | cons s' r =>
        have HNO := hid (setP_no (T := T) (s := ⟨⟨#[]⟩, (i : Int), true⟩) (r := s' :: r) (x := U) (by unfold idxT; rw [if_pos rfl, if_neg (by simp; omega)]) (fun h => by cases h))
        subst heq
        simp only [List.length_cons] at hl hp1 ⊢
        go_wp2_with fail
        obtain ⟨r0, r1, r2, r3, r4⟩ := HRR.out
        refine bodyPost_ret (v := .tuple #[vv zeroT (.slice none 0 0) (.slice none 0 0), .bool false]) (by simp [results, Tryz.results29, go_sem, vv, zeroT, VT.kd, VT.nm, VT.st, r0, r1, r2, r3, r4]) rfl ⟨zeroT, _, _, by rw [HNO.out]; rfl, by rw [HNO.out]; rfl, hs_zero _ _, ?_⟩
        exact box5_bel ST2.out.bel _ (by omega) _ _ _ _ _
      | nil =>
        subst heq
        simp only [List.length_nil] at hl hp1 ⊢
        obtain ⟨E, hC2, hY, hC1⟩ := CO2.out HVS.out
        have HYN := hid hY
        clear hY
        have HC2 := hid hC2
        have HC1 := hid hC1
        clear hC2 hC1 CO2
        obtain ⟨x0, x1, x2, x3, x4⟩ := ST2.out.nodx
        simp only [Nat.zero_add] at x0 x1 x2 x3 x4
        obtain ⟨i0, hi, hz0, hz1, hz2⟩ := info_parts Tryz.info27
        have hlow : w.heap.size + 4 ≤ w1.heap.size := by omega
        have hlL : T.ls.length ≤ 1000000 := by have := (len_sz T).1; omega
        go_wp2_with fail
        have hXB := hid (fun k hk => Below.heap_alloc w1 (.cells #[.int .i64 T.kd, .int .i64 T.nm, .string T.st, .slice y1 z1 d1, .slice y2 z2 d2] 31) k hk)
        clear b0 b1 b2 b3 b4 q0 q1 q2 q3 q4 qf f1 f2
        generalize (w1.alloc (.cells #[.int .i64 T.kd, .int .i64 T.nm, .string T.st, .slice y1 z1 d1, .slice y2 z2 d2] 31)) = W2 at ST2 SB2 CB2 CR2 HC2 x0 x1 x2 x3 x4 hsz2 HRR hXB ⊢
        obtain ⟨g0, g1, g2, g3, g4⟩ := CB2.out.cells
        have hob : ∀ k, (Value.slice y1 z1 d1).ownBlock = some k → w.heap.size + 4 ≤ k ∧ k < w1.heap.size := fun k hk => HC1.out.2.2.1.lt k hk
        have HKEEP : Hid (∀ X : World, (∀ k, k < W2.heap.size → ¬ (Value.slice y1 z1 d1).ownBlock = some k → X.heap[k]? = W2.heap[k]?) → X.cell? ⟨w1.heap.size, 3, none⟩ = some (.slice y1 z1 d1) ∧ X.cell? ⟨w.heap.size + 1, 0, none⟩ = some (.int .i64 U.kd) ∧ X.cell? ⟨w.heap.size + 1, 1, none⟩ = some (.int .i64 U.nm) ∧ X.cell? ⟨w.heap.size + 1, 2, none⟩ = some (.string U.st) ∧ X.cell? ⟨w.heap.size + 1, 3, none⟩ = some (.slice o3 n3 c3) ∧ X.cell? ⟨w.heap.size + 1, 4, none⟩ = some (.slice o4 n4 c4)) := hid (by
          intro X hX
          have e1 : ∀ o, X.cell? ⟨w1.heap.size, o, none⟩ = W2.cell? ⟨w1.heap.size, o, none⟩ := fun o => World.cell?_of_block (w := W2) (hX _ (by show w1.heap.size < _; omega) (fun h => by have := hob _ h; simp at this))
          have e2 : ∀ o, X.cell? ⟨w.heap.size + 1, o, none⟩ = W2.cell? ⟨w.heap.size + 1, o, none⟩ := fun o => World.cell?_of_block (w := W2) (hX _ (by show w.heap.size + 1 < _; omega) (fun h => by have := hob _ h; simp at this))
          exact ⟨(e1 3).trans g3, (e2 0).trans x0, (e2 1).trans x1, (e2 2).trans x2, (e2 3).trans x3, (e2 4).trans x4⟩)
        have CX := hid (fun W (hW : Below W2.heap.size W2 W) => rcopy_any (szT U) U (Nat.le_refl _) hszU _ _ W (HU.out.onto (vonto ST2.out.bel hW)))
        simp only [vv] at CX
        refine wp_region_ends2 (S := fun X => X.cell? ⟨w1.heap.size, 3, none⟩ = some (.slice y1 z1 d1) ∧ X.cell? ⟨w.heap.size + 1, 0, none⟩ = some (.int .i64 U.kd) ∧ X.cell? ⟨w.heap.size + 1, 1, none⟩ = some (.int .i64 U.nm) ∧ X.cell? ⟨w.heap.size + 1, 2, none⟩ = some (.string U.st) ∧ X.cell? ⟨w.heap.size + 1, 3, none⟩ = some (.slice o3 n3 c3) ∧ X.cell? ⟨w.heap.size + 1, 4, none⟩ = some (.slice o4 n4 c4)) (by simp) (by kernel_rfl) (by kernel_rfl) (by kernel_rfl) (by kernel_rfl) (by kernel_rfl) (by kernel_rfl) ?_
        simp only [List.dropLast, List.getLast_cons_cons, List.getLast_singleton, List.length_cons, List.length_nil]
        have hS0 := HKEEP.out W2.drew (fun _ _ _ => rfl)
        refine take_h (i := 0) (v := ?_) rfl (by kernel_rfl) (by kernel_rfl) (by kernel_rfl) (fun _ _ _ h => h) (by rfl) ?_ hS0 ?_
        rotate_left
        · (intro X hX; go_simp; try with_reducible rfl)
        simp only [Act.put, List.setIfInBounds_toArray, List.set_cons_zero, List.set_cons_succ]
        refine take_h (i := 1) (v := ?_) rfl (by kernel_rfl) (by kernel_rfl) (by kernel_rfl) (fun _ _ _ h => h) (by rfl) ?_ hS0 ?_
        rotate_left
        · (intro X hX; go_simp; try with_reducible rfl)
        simp only [Act.put, List.setIfInBounds_toArray, List.set_cons_zero, List.set_cons_succ]
        refine take_h (i := 2) (v := ?_) rfl (by kernel_rfl) (by kernel_rfl) (by kernel_rfl) (fun _ _ _ h => h) (by rfl) ?_ hS0 ?_
        rotate_left
        · (intro X hX; go_simp; try with_reducible rfl)
        simp only [Act.put, List.setIfInBounds_toArray, List.set_cons_zero, List.set_cons_succ]
        refine step_h (i := 3) rfl (by kernel_rfl) ?_
        intro KK hKK
        go_simp
        go_wp2_with (go_at_call 26; go_must (refine (CX.out _ (Below.refl _ _).drew).mono ?_; rintro e wq ⟨X', Y', rfl, hxu, hbq⟩))
        obtain ⟨p1, m1, k1, p2, m2, k2, rfl, rfl⟩ := hv_slices hxu.hv
        have hsq := hbq.size
        replace hbq : Below W2.heap.size W2 wq := vonto (Below.refl W2.heap.size W2).drew hbq
        replace hxu : HS wq (fun k => W2.heap.size ≤ k ∧ k < wq.heap.size) U (.slice p1 m1 k1) (.slice p2 m2 k2) := hxu
        replace hsq : W2.heap.size ≤ wq.heap.size := hsq
        refine hKK.out _ _ (HKEEP.out _ (fun k hk _ => hbq.block k hk)) (fun hS1 => ?_)
        clear hKK KK hS0
        refine step_h (i := 4) rfl (by kernel_rfl) ?_
        intro KK hKK
        go_simp
        refine hKK.out _ _ (HKEEP.out _ (fun k hk _ => (Below.heap_alloc _ _ _ (by omega)).trans (hbq.block k hk))) (fun hS2 => ?_)
        clear hKK KK hS1
        refine step_h (i := 5) rfl (by kernel_rfl) ?_
        intro KK hKK
        refine step_append_lies _ (by rfl) _ _ _ (by rfl) (w.heap.size + 4) 31 i0 (.agg #[.int .i64 0, .int .i64 0, .string ⟨#[]⟩, .slice none 0 0, .slice none 0 0]) 5 80 Tryz.underlying28 hi hz0 hz1 hz2 rfl (by decide) _ T.ls.length _ (by rfl) ((ownsRow_below HC2.out.2.2.1 hbq).alloc _) ⟨wq.heap.size, 0, none⟩ 1 1 (vc (U, .slice p1 m1 k1, .slice p2 m2 k2)) (by rfl) rfl (new_cells wq _ 31) (vc_one _ _ _ _ _ _ _) (by decide) (by unfold maxLen; omega) (by omega) (by simp; omega) (wq.heap.size + 1) (by simp) ?_
        intro g' cap' w3 hown3 hgr3 hat3 hlt3
        have hK3 : ∀ k, k < W2.heap.size → ¬ (Value.slice y1 z1 d1).ownBlock = some k → w3.heap[k]? = W2.heap[k]? := fun k hk hn => (hgr3.block k (by simp; omega) (fun h => hn h.symm)).trans ((Below.heap_alloc _ _ _ (by omega)).trans (hbq.block k hk))
        refine hKK.out _ _ (HKEEP.out _ hK3) (fun hS3 => ?_)
        clear hKK KK hS2
        simp only [Act.put, List.setIfInBounds_toArray, List.set_cons_zero, List.set_cons_succ]
        refine take_h (i := 6) (v := ?_) rfl (by kernel_rfl) (by kernel_rfl) (by kernel_rfl) (fun _ _ _ h => h) (by rfl) ?_ hS3 ?_
        rotate_left
        · (intro X hX; go_simp; try with_reducible rfl)
        simp only [Act.put, List.setIfInBounds_toArray, List.set_cons_zero, List.set_cons_succ]
        have hnb : ∀ k, (w.heap.size + 4 ≤ k ∧ k < w1.heap.size) → True := fun _ _ => trivial
        have e1 : w3.heap[w1.heap.size]? = W2.heap[w1.heap.size]? := hK3 _ (by omega) (fun h => by have := hob _ h; omega)
        have ez : w3.heap[w.heap.size + 1 + 1]? = W2.heap[w.heap.size + 1 + 1]? := hK3 _ (by omega) (fun h => by have := hob _ h; omega)
        have CR3 := hid (CR2.out.onto e1)
        have y5 := ((World.cell?_of_block (w := W2) (a := ⟨w1.heap.size, 3, none⟩) e1).trans g3)
        have zf := CR3.out.frozen
        clear hS3 hnb
        refine wpAnyH_done (by kernel_rfl) ?_ _
        change Oper.wp _ _ _ _ _ _
        go_simp
        have hgb : ¬ g' = w1.heap.size := fun e => by
          rcases hat3 with h | h
          · have := hob _ h; omega
          · omega
        have hgl := (World.ownsRow.lt hown3 g' rfl).1
        have VN := hid (show (w3.setCell ⟨w1.heap.size, 3, none⟩ (.slice (some ⟨g', 0, none⟩) (T.ls.length + 1) cap')).ownsRow (w.heap.size + 4) 31 5 (.slice (some ⟨g', 0, none⟩) (T.ls.length + 1) cap') (T.ls.length + 1) (E.flatMap vc ++ vc (U, .slice p1 m1 k1, .slice p2 m2 k2)) from own_far hown3 _ _ _ (fun g hg => by simp [Value.ownBlock] at hg; subst hg; exact hgb))
        have hF4 := hid (fun k (hk : ¬ k = w1.heap.size) => Below.heap_setCell w3 ⟨w1.heap.size, 3, none⟩ (.slice (some ⟨g', 0, none⟩) (T.ls.length + 1) cap') k hk)
        have NZ := hid (z5_far (z5_far ST2.out.zero ez) (hF4.out _ (by omega)))
        have cb : ∀ o, w3.cell? ⟨w1.heap.size, o, none⟩ = W2.cell? ⟨w1.heap.size, o, none⟩ := fun o => World.cell?_of_block (w := W2) e1
        have n0 := (set_other w3 w1.heap.size w1.heap.size 3 0 (.slice (some ⟨g', 0, none⟩) (T.ls.length + 1) cap') (Or.inr (by omega))).trans ((cb 0).trans g0)
        have n1 := (set_other w3 w1.heap.size w1.heap.size 3 1 (.slice (some ⟨g', 0, none⟩) (T.ls.length + 1) cap') (Or.inr (by omega))).trans ((cb 1).trans g1)
        have n2 := (set_other w3 w1.heap.size w1.heap.size 3 2 (.slice (some ⟨g', 0, none⟩) (T.ls.length + 1) cap') (Or.inr (by omega))).trans ((cb 2).trans g2)
        have n3 := set_same CR3.out (o := 3) (by simp) (.slice (some ⟨g', 0, none⟩) (T.ls.length + 1) cap')
        have n4 := (set_other w3 w1.heap.size w1.heap.size 3 4 (.slice (some ⟨g', 0, none⟩) (T.ls.length + 1) cap') (Or.inr (by omega))).trans ((cb 4).trans g4)
        have hB4 : Below w.heap.size w (w3.setCell ⟨w1.heap.size, 3, none⟩ (.slice (some ⟨g', 0, none⟩) (T.ls.length + 1) cap')) := vset_bel (Below.grown (vonto (vonto ST2.out.bel hbq) (valloc_bel (Below.refl _ _) _)) hgr3 (by simp; omega) (fun q hq => by have := hob q hq; omega)) (by show w.heap.size ≤ w1.heap.size; omega)
        have hs4 : (w3.setCell ⟨w1.heap.size, 3, none⟩ (.slice (some ⟨g', 0, none⟩) (T.ls.length + 1) cap')).heap.size = w3.heap.size := by simp
        generalize (w3.setCell ⟨w1.heap.size, 3, none⟩ (.slice (some ⟨g', 0, none⟩) (T.ls.length + 1) cap')) = W4 at VN hF4 NZ n0 n1 n2 n3 n4 hB4 hs4 ⊢
        obtain ⟨⟨q0, q1, q2, q3, q4⟩, qf⟩ := NZ.out
        clear g0 g1 g2 g3 g4 x0 x1 x2 x3 x4 y5 zf e1 ez cb
        go_wp2_with fail
        obtain ⟨r0, r1, r2, r3, r4⟩ := z5_put NZ.out T (.slice (some ⟨g', 0, none⟩) (T.ls.length + 1) cap') (.slice y2 z2 d2)
        simp only [put5, Nat.zero_add] at r0 r1 r2 r3 r4
        have hpo : setP T [⟨⟨#[]⟩, (T.ls.length : Int), true⟩] U = some (addT T U) := by
          rw [setP_one]
          unfold putT idxT
          simp only [if_true]
          rw [if_neg (by omega)]
          simp only
          rw [if_pos ⟨H5.out, trivial⟩]
        have hae : (addT T U).kd = T.kd ∧ (addT T U).nm = T.nm ∧ (addT T U).st = T.st ∧ (addT T U).ls = T.ls ++ [U] ∧ (addT T U).ks = T.ks ∧ (addT T U).vs = T.vs := by cases T; exact ⟨rfl, rfl, rfl, rfl, rfl, rfl⟩
        obtain ⟨a0, a1, a2, a3, a4, a5⟩ := hae
        have hV0 : T.vs = [] := List.eq_nil_of_length_eq_zero HVS.out
        have hK0 : T.ks = [] := List.eq_nil_of_length_eq_zero ((hv_ks HT.out).trans HVS.out)
        have hs3 := hgr3.size
        simp only [World.size_alloc] at hs3
        refine bodyPost_ret (v := .tuple #[vv (addT T U) (.slice (some ⟨g', 0, none⟩) (T.ls.length + 1) cap') (.slice y2 z2 d2), .bool true]) (by simp [results, Tryz.results29, go_sem, vv, a0, a1, a2, r0, r1, r2, r3, r4]) rfl ⟨addT T U, _, _, by rw [hpo]; rfl, by rw [hpo]; rfl, ?_, box5_bel hB4 _ (by omega) _ _ _ _ _⟩
        change HS (put5 W4 (w.heap.size + 1 + 1) 0 (.int .i64 T.kd) (.int .i64 T.nm) (.string T.st) (.slice (some ⟨g', 0, none⟩) (T.ls.length + 1) cap') (.slice y2 z2 d2)) (fun k => w.heap.size ≤ k ∧ k < (put5 W4 (w.heap.size + 1 + 1) 0 (.int .i64 T.kd) (.int .i64 T.nm) (.string T.st) (.slice (some ⟨g', 0, none⟩) (T.ls.length + 1) cap') (.slice y2 z2 d2)).heap.size) _ _ _
        rw [put5_size, hs4]
        have hff : ∀ k, ¬ k = w.heap.size + 1 + 1 → ¬ k = w1.heap.size → (put5 W4 (w.heap.size + 1 + 1) 0 (.int .i64 T.kd) (.int .i64 T.nm) (.string T.st) (.slice (some ⟨g', 0, none⟩) (T.ls.length + 1) cap') (.slice y2 z2 d2)).heap[k]? = w3.heap[k]? := fun k h1 h2 => (put5_heap _ _ _ _ _ _ _ _ _ h1).trans (hF4.out k h2)
        refine hs_of (by rw [a0, a1, a2]; exact HT.out.wfs) (by
          rw [a3]
          refine copied_add HC1.out (own_far5 VN.out _ _ _ _ _ _ _ (fun g hg => by simp [Value.ownBlock] at hg; subst hg; omega)) (fun k hk => ?_) (fun k hk => ⟨by omega, by omega⟩) ⟨by omega, hlt3⟩ (hxu.onto (fun k hk => ?_) (fun k hk => ⟨by omega, by omega⟩))
          · rw [hff k (by omega) (by omega), hK3 k (by omega) hk.2.2, hXB.out k hk.2.1]
          · rw [hff k (by omega) (by omega), hgr3.block k (by simp; omega) (fun h => by have := hob k h.symm; omega), Below.heap_alloc _ _ _ hk.2]) (by
          rw [a4, a5, hV0, hK0, HYN.out]
          exact ms_nil _ _)
    · have hlt : i < T.ls.length := by omega
      obtain ⟨t, ht⟩ : ∃ t, T.ls[i]? = some t := ⟨T.ls[i], List.getElem?_eq_getElem hlt⟩
      obtain rfl := hoL (by omega)
      obtain ⟨e0', e1', e2', e3', e4'⟩ := CLN.out i t ht
      have HVT := hid (RL.out i t ht)
      obtain ⟨y3, z3, d3, y4, z4, d4, hf1, hg1⟩ := hv_slices HVT.out
      rw [hf1] at e3' HVT
      rw [hg1] at e4' HVT
      have e0 := keepCell ST2.out.bel e0'; have e1 := keepCell ST2.out.bel e1'; have e2 := keepCell ST2.out.bel e2'; have e3 := keepCell ST2.out.bel e3'; have e4 := keepCell ST2.out.bel e4'
      have hkid : kidT T ⟨⟨#[]⟩, (i : Int), true⟩ i = some t := by unfold kidT; rw [if_pos rfl]; exact ht
      have hidx : idxT T ⟨⟨#[]⟩, (i : Int), true⟩ = some i := by unfold idxT; rw [if_pos rfl, if_pos ⟨H5.out, by simp, by simpa using hlt⟩]; simp
      have HSS := hid (setP_step r U hidx hkid)
      have hszt := szT_ls T i t ht
      have HPT : Hid (plainT t = true) := hid (by
        have := HPL.out
        rw [plainT_eq, Bool.and_eq_true, Bool.and_eq_true] at this
        exact (plainL_get _).1 this.1.2 i t ht)
      have HPD := hid (inp_tl (m := 1) HP.out (by simp))
      simp only [List.drop_one, List.tail_cons, List.length_cons, Nat.add_sub_cancel, add_o5] at HPD
      have hle1 : (1 : Int) ≤ (r.length : Int) + 1 := by omega
      obtain ⟨E, hC2, hY, hC1⟩ := CO2.out HVS.out
      have HYN := hid hY
      have HC2 := hid hC2
      have HC1 := hid hC1
      clear hC2 hC1 CO2 hY e0' e1' e2' e3' e4' hf1 hg1 ht hkid hidx
      obtain ⟨x0, x1, x2, x3, x4⟩ := ST2.out.nodx
      simp only [Nat.zero_add] at x0 x1 x2 x3 x4
      have hlow : w.heap.size + 4 ≤ w1.heap.size := by omega
      have hne : ¬ i = T.ls.length := heq
      go_wp2_with fail
      have hXB := hid (fun k hk => Below.heap_alloc w1 (.cells #[.int .i64 T.kd, .int .i64 T.nm, .string T.st, .slice y1 z1 d1, .slice y2 z2 d2] 31) k hk)
      clear b0 b1 b2 b4 q0 q1 q2 q3 q4 qf f2 HRR
      generalize (w1.alloc (.cells #[.int .i64 T.kd, .int .i64 T.nm, .string T.st, .slice y1 z1 d1, .slice y2 z2 d2] 31)) = W2 at ST2 SB2 CB2 CR2 HC2 x0 x1 x2 x3 x4 hsz2 hXB b3 f1 e0 e1 e2 e3 e4 ⊢
      have HSZ2 := hid hsz2
      clear hsz2
      have CG := hid (fun X (hX : Below W2.heap.size W2 X) => HIH.out t U _ _ _ _ _ X HPT.out (by omega) hszU (HVT.out.onto (vonto ST2.out.bel hX)) (HU.out.onto (vonto ST2.out.bel hX)) (HPD.out.onto (vonto ST2.out.bel hX)) HF.out (by omega))
      simp only [vv] at CG
      go_cut [10, 11] (fun vb vo wx => ∃ b o n c o' n' c' Z, vb = .pointer (some ⟨b, 0, none⟩) ∧ vo = .bool (setP t r U).isSome ∧ W2.heap.size ≤ b ∧ Hid (Z = (setP t r U).getD zeroT) ∧ Hid (Node wx ⟨b, 0, none⟩ Z (.slice o n c) (.slice o' n' c')) ∧ Hid (HS wx (fun k => W2.heap.size ≤ k ∧ k < wx.heap.size) Z (.slice o n c) (.slice o' n' c')) ∧ Hid (Below W2.heap.size W2 wx))
      case first =>
        refine wp_region_h (S := fun X => Below W2.heap.size W2 X) 16 (by kernel_rfl) (by kernel_rfl) ?_
        have hS0 : Below W2.heap.size W2 W2.drew := (Below.refl _ _).drew
        refine take_h (i := 0) (v := ?_) rfl (by kernel_rfl) (by kernel_rfl) (by kernel_rfl) (fun _ _ _ h => h) (by rfl) ?_ hS0 ?_
        rotate_left
        · (intro X hX; have y20 := keepCell hX b3; have y21 := keepCell hX f1; have y22 := keepCell hX e0; have y23 := keepCell hX e1; have y24 := keepCell hX e2; have y25 := keepCell hX e3; have y26 := keepCell hX e4; have y27 := keepCell hX x0; have y28 := keepCell hX x1; have y29 := keepCell hX x2; have y30 := keepCell hX x3; have y31 := keepCell hX x4; go_simp; try with_reducible rfl)
        simp only [Act.put, List.setIfInBounds_toArray, List.set_cons_zero, List.set_cons_succ]
        refine take_h (i := 1) (v := ?_) rfl (by kernel_rfl) (by kernel_rfl) (by kernel_rfl) (fun _ _ _ h => h) (by rfl) ?_ hS0 ?_
        rotate_left
        · (intro X hX; have y20 := keepCell hX b3; have y21 := keepCell hX f1; have y22 := keepCell hX e0; have y23 := keepCell hX e1; have y24 := keepCell hX e2; have y25 := keepCell hX e3; have y26 := keepCell hX e4; have y27 := keepCell hX x0; have y28 := keepCell hX x1; have y29 := keepCell hX x2; have y30 := keepCell hX x3; have y31 := keepCell hX x4; go_simp; try with_reducible rfl)
        simp only [Act.put, List.setIfInBounds_toArray, List.set_cons_zero, List.set_cons_succ]
        refine take_h (i := 2) (v := ?_) rfl (by kernel_rfl) (by kernel_rfl) (by kernel_rfl) (fun _ _ _ h => h) (by rfl) ?_ hS0 ?_
        rotate_left
        · (intro X hX; have y20 := keepCell hX b3; have y21 := keepCell hX f1; have y22 := keepCell hX e0; have y23 := keepCell hX e1; have y24 := keepCell hX e2; have y25 := keepCell hX e3; have y26 := keepCell hX e4; have y27 := keepCell hX x0; have y28 := keepCell hX x1; have y29 := keepCell hX x2; have y30 := keepCell hX x3; have y31 := keepCell hX x4; go_simp; try with_reducible rfl)
        simp only [Act.put, List.setIfInBounds_toArray, List.set_cons_zero, List.set_cons_succ]
        refine take_h (i := 3) (v := ?_) rfl (by kernel_rfl) (by kernel_rfl) (by kernel_rfl) (fun _ _ _ h => h) (by rfl) ?_ hS0 ?_
        rotate_left
        · (intro X hX; have y20 := keepCell hX b3; have y21 := keepCell hX f1; have y22 := keepCell hX e0; have y23 := keepCell hX e1; have y24 := keepCell hX e2; have y25 := keepCell hX e3; have y26 := keepCell hX e4; have y27 := keepCell hX x0; have y28 := keepCell hX x1; have y29 := keepCell hX x2; have y30 := keepCell hX x3; have y31 := keepCell hX x4; go_simp; try with_reducible rfl)
        simp only [Act.put, List.setIfInBounds_toArray, List.set_cons_zero, List.set_cons_succ]
        refine take_h (i := 4) (v := ?_) rfl (by kernel_rfl) (by kernel_rfl) (by kernel_rfl) (fun _ _ _ h => h) (by rfl) ?_ hS0 ?_
        rotate_left
        · (intro X hX; have y20 := keepCell hX b3; have y21 := keepCell hX f1; have y22 := keepCell hX e0; have y23 := keepCell hX e1; have y24 := keepCell hX e2; have y25 := keepCell hX e3; have y26 := keepCell hX e4; have y27 := keepCell hX x0; have y28 := keepCell hX x1; have y29 := keepCell hX x2; have y30 := keepCell hX x3; have y31 := keepCell hX x4; go_simp; try with_reducible rfl)
        simp only [Act.put, List.setIfInBounds_toArray, List.set_cons_zero, List.set_cons_succ]
        refine take_h (i := 5) (v := ?_) rfl (by kernel_rfl) (by kernel_rfl) (by kernel_rfl) (fun _ _ _ h => h) (by rfl) ?_ hS0 ?_
        rotate_left
        · (intro X hX; have y20 := keepCell hX b3; have y21 := keepCell hX f1; have y22 := keepCell hX e0; have y23 := keepCell hX e1; have y24 := keepCell hX e2; have y25 := keepCell hX e3; have y26 := keepCell hX e4; have y27 := keepCell hX x0; have y28 := keepCell hX x1; have y29 := keepCell hX x2; have y30 := keepCell hX x3; have y31 := keepCell hX x4; go_simp; try with_reducible rfl)
        simp only [Act.put, List.setIfInBounds_toArray, List.set_cons_zero, List.set_cons_succ]
        refine take_h (i := 6) (v := ?_) rfl (by kernel_rfl) (by kernel_rfl) (by kernel_rfl) (fun _ _ _ h => h) (by rfl) ?_ hS0 ?_
        rotate_left
        · (intro X hX; have y20 := keepCell hX b3; have y21 := keepCell hX f1; have y22 := keepCell hX e0; have y23 := keepCell hX e1; have y24 := keepCell hX e2; have y25 := keepCell hX e3; have y26 := keepCell hX e4; have y27 := keepCell hX x0; have y28 := keepCell hX x1; have y29 := keepCell hX x2; have y30 := keepCell hX x3; have y31 := keepCell hX x4; go_simp; try with_reducible rfl)
        simp only [Act.put, List.setIfInBounds_toArray, List.set_cons_zero, List.set_cons_succ]
        refine take_h (i := 7) (v := ?_) rfl (by kernel_rfl) (by kernel_rfl) (by kernel_rfl) (fun _ _ _ h => h) (by rfl) ?_ hS0 ?_
        rotate_left
        · (intro X hX; have y20 := keepCell hX b3; have y21 := keepCell hX f1; have y22 := keepCell hX e0; have y23 := keepCell hX e1; have y24 := keepCell hX e2; have y25 := keepCell hX e3; have y26 := keepCell hX e4; have y27 := keepCell hX x0; have y28 := keepCell hX x1; have y29 := keepCell hX x2; have y30 := keepCell hX x3; have y31 := keepCell hX x4; go_simp; try with_reducible rfl)
        simp only [Act.put, List.setIfInBounds_toArray, List.set_cons_zero, List.set_cons_succ]
        refine take_h (i := 8) (v := ?_) rfl (by kernel_rfl) (by kernel_rfl) (by kernel_rfl) (fun _ _ _ h => h) (by rfl) ?_ hS0 ?_
        rotate_left
        · (intro X hX; have y20 := keepCell hX b3; have y21 := keepCell hX f1; have y22 := keepCell hX e0; have y23 := keepCell hX e1; have y24 := keepCell hX e2; have y25 := keepCell hX e3; have y26 := keepCell hX e4; have y27 := keepCell hX x0; have y28 := keepCell hX x1; have y29 := keepCell hX x2; have y30 := keepCell hX x3; have y31 := keepCell hX x4; go_simp; try with_reducible rfl)
        simp only [Act.put, List.setIfInBounds_toArray, List.set_cons_zero, List.set_cons_succ]
        generalize (if cp = 1 then some a else some ⟨a.block, a.off + 3, none⟩) = oa at HPD CG ⊢
        refine wpAnyH_ready (rs := [9, 13]) (by kernel_rfl) (by simp) ?_
        refine AllReadyH.cons rfl (fun KK hKK => ?_) (AllReadyH.cons rfl (fun KK hKK => ?_) AllReadyH.nil)
        · go_simp
          go_wp2_with (go_at_call 29; go_must (refine (CG.out _ hS0).mono ?_; rintro e wg ⟨Z, X, Y, rfl, hZ, hfg, hbg⟩; have HZ := hid hZ; clear hZ; simp only [vv]))
          obtain ⟨ro1, rn1, rc1, ro2, rn2, rc2, rfl, rfl⟩ := hv_slices hfg.hv
          have hS1 := vonto hS0 hbg
          refine hKK.out _ _ hS1 (fun _ => ?_)
          clear hKK KK
          refine take_h (i := 10) (v := ?_) rfl (by kernel_rfl) (by kernel_rfl) (by kernel_rfl) (fun _ _ _ h => h) (by rfl) ?_ hS1 ?_
          rotate_left
          · (intro X hX; go_simp; try with_reducible rfl)
          simp only [Act.put, List.setIfInBounds_toArray, List.set_cons_zero, List.set_cons_succ]
          refine take_h (i := 11) (v := ?_) rfl (by kernel_rfl) (by kernel_rfl) (by kernel_rfl) (fun _ _ _ h => h) (by rfl) ?_ hS1 ?_
          rotate_left
          · (intro X hX; go_simp; try with_reducible rfl)
          simp only [Act.put, List.setIfInBounds_toArray, List.set_cons_zero, List.set_cons_succ]
          refine take_h (i := 12) (v := ?_) rfl (by kernel_rfl) (by kernel_rfl) (by kernel_rfl) (fun _ _ _ h => h) (by rfl) ?_ hS1 ?_
          rotate_left
          · (intro X hX; go_simp; try with_reducible rfl)
          simp only [Act.put, List.setIfInBounds_toArray, List.set_cons_zero, List.set_cons_succ]
          refine step_h (i := 13) rfl (by kernel_rfl) ?_
          intro KK hKK
          go_simp
          refine hKK.out _ _ (valloc_bel hS1 _) (fun _ => ?_)
          clear hKK KK
          refine step_h (i := 14) rfl (by kernel_rfl) ?_
          intro KK hKK
          go_simp
          have HN2 := hid (bx_new hfg.hv 31).1
          have HH2 := hid (HS.on (hi := W2.heap.size) hfg (valloc_bel (Below.refl _ _) (.cells #[.int .i64 Z.kd, .int .i64 Z.nm, .string Z.st, .slice ro1 rn1 rc1, .slice ro2 rn2 rc2] 31)) (Nat.le_refl _))
          have hS2 := valloc_bel hS1 (.cells #[.int .i64 Z.kd, .int .i64 Z.nm, .string Z.st, .slice ro1 rn1 rc1, .slice ro2 rn2 rc2] 31)
          refine hKK.out _ _ hS2 (fun _ => ?_)
          clear hKK KK
          refine take_h (i := 15) (v := ?_) rfl (by kernel_rfl) (by kernel_rfl) (by kernel_rfl) (fun _ _ _ h => h) (by rfl) ?_ hS2 ?_
          rotate_left
          · (intro X hX; go_simp; try with_reducible rfl)
          simp only [Act.put, List.setIfInBounds_toArray, List.set_cons_zero, List.set_cons_succ]
          refine wpAnyH_done (by kernel_rfl) ?_ _
          go_wp2_with fail
          go_meet
          exact ⟨wg.heap.size, ro1, rn1, rc1, ro2, rn2, rc2, Z, rfl, rfl, hS1.size, HZ, HN2, HH2, hid hS2⟩
        · go_simp
          have hS1 : Below W2.heap.size W2 (W2.alloc (.cells #[.int .i64 0, .int .i64 0, .string ⟨#[]⟩, .slice none 0 0, .slice none 0 0] 31)).drew := (valloc_bel (Below.refl _ _) _).drew
          have hz := z5_new W2
          refine hKK.out _ _ hS1 (fun _ => ?_)
          clear hKK KK
          refine step_h (i := 9) rfl (by kernel_rfl) ?_
          intro KK hKK
          go_simp
          go_wp2_with (go_at_call 29; go_must (refine (CG.out _ hS1).mono ?_; rintro e wg ⟨Z, X, Y, rfl, hZ, hfg, hbg⟩; have HZ := hid hZ; clear hZ; simp only [vv]))
          obtain ⟨ro1, rn1, rc1, ro2, rn2, rc2, rfl, rfl⟩ := hv_slices hfg.hv
          have hS2 := vonto hS1 hbg
          have hz2 : Z5 wg W2.heap.size := (hz.onto (Below.refl _ _).drew).onto hbg
          have HZ2 := hid hz2
          obtain ⟨⟨q0, q1, q2, q3, q4⟩, qf⟩ := hz2
          refine hKK.out _ _ hS2 (fun _ => ?_)
          clear hKK KK
          refine take_h (i := 10) (v := ?_) rfl (by kernel_rfl) (by kernel_rfl) (by kernel_rfl) (fun _ _ _ h => h) (by rfl) ?_ hS2 ?_
          rotate_left
          · (intro X hX; go_simp; try with_reducible rfl)
          simp only [Act.put, List.setIfInBounds_toArray, List.set_cons_zero, List.set_cons_succ]
          refine take_h (i := 11) (v := ?_) rfl (by kernel_rfl) (by kernel_rfl) (by kernel_rfl) (fun _ _ _ h => h) (by rfl) ?_ hS2 ?_
          rotate_left
          · (intro X hX; go_simp; try with_reducible rfl)
          simp only [Act.put, List.setIfInBounds_toArray, List.set_cons_zero, List.set_cons_succ]
          refine take_h (i := 12) (v := ?_) rfl (by kernel_rfl) (by kernel_rfl) (by kernel_rfl) (fun _ _ _ h => h) (by rfl) ?_ hS2 ?_
          rotate_left
          · (intro X hX; go_simp; try with_reducible rfl)
          simp only [Act.put, List.setIfInBounds_toArray, List.set_cons_zero, List.set_cons_succ]
          refine step_h (i := 14) rfl (by kernel_rfl) ?_
          intro KK hKK
          go_simp
          have hS3 : Below W2.heap.size W2 (put5 wg W2.heap.size 0 (.int .i64 Z.kd) (.int .i64 Z.nm) (.string Z.st) (.slice ro1 rn1 rc1) (.slice ro2 rn2 rc2)) := put5_bel hS2 (Nat.le_refl _)
          have HH3 := hid (put5_hs (w := wg) (b := W2.heap.size) (v0 := .int .i64 Z.kd) (v1 := .int .i64 Z.nm) (v2 := .string Z.st) (v3 := .slice ro1 rn1 rc1) (v4 := .slice ro2 rn2 rc2) (lo := W2.heap.size + 1) (by omega) (hfg.onto (fun _ _ => rfl) (fun k hk => ⟨by have := hk.1; rw [show (W2.alloc (.cells #[.int .i64 0, .int .i64 0, .string ⟨#[]⟩, .slice none 0 0, .slice none 0 0] 31)).drew.heap.size = W2.heap.size + 1 from World.size_alloc _ _] at this; exact this, hk.2⟩)) (lo' := W2.heap.size) (by omega))
          have HN3 := hid (z5_put HZ2.out Z (.slice ro1 rn1 rc1) (.slice ro2 rn2 rc2))
          simp only [put5, Nat.zero_add] at hS3 HH3 HN3
          refine hKK.out _ _ hS3 (fun _ => ?_)
          clear hKK KK q0 q1 q2 q3 q4 qf
          refine take_h (i := 15) (v := ?_) rfl (by kernel_rfl) (by kernel_rfl) (by kernel_rfl) (fun _ _ _ h => h) (by rfl) ?_ hS3 ?_
          rotate_left
          · (intro X hX; go_simp; try with_reducible rfl)
          simp only [Act.put, List.setIfInBounds_toArray, List.set_cons_zero, List.set_cons_succ]
          refine wpAnyH_done (by kernel_rfl) ?_ _
          go_wp2_with fail
          go_meet
          exact ⟨W2.heap.size, ro1, rn1, rc1, ro2, rn2, rc2, Z, rfl, rfl, Nat.le_refl _, HZ, HN3, HH3, hid hS3⟩
      case rest =>
      obtain ⟨b, zo1, zn1, zc1, zo2, zn2, zc2, Z, rfl, rfl, hbb, HZ, HN, HH, HB⟩ := hcut
      obtain ⟨gr, hgr1, hgr2⟩ : ∃ gr, y1 = some ⟨gr, 0, none⟩ ∧ z1 = T.ls.length := by
        rcases HC2.out.2.2.1 with ⟨-, ⟨h, h0⟩ | ⟨gr, cap, cur, e, -⟩⟩
        · omega
        · injection e with e1 e2 e3; exact ⟨gr, e1, e2⟩
      subst hgr1 hgr2
      have HCc := hid (HC2.out.on HB.out)
      obtain ⟨-, hgb, hnd, hdm, hrow⟩ := own_soft HCc.out.2.2.1
      have HROW := hid hrow
      have hgl : gr < w1.heap.size := (World.ownsRow.lt HC1.out.2.2.1 gr rfl).2
      obtain ⟨u0, v0⟩ := hrow.cell (o := i * 5) (by omega)
      obtain ⟨u1, v1⟩ := hrow.cell (o := i * 5 + 1) (by omega)
      obtain ⟨u2, v2⟩ := hrow.cell (o := i * 5 + 2) (by omega)
      obtain ⟨u3, v3⟩ := hrow.cell (o := i * 5 + 3) (by omega)
      obtain ⟨u4, v4⟩ := hrow.cell (o := i * 5 + 4) (by omega)
      have vf := hrow.frozen
      have ha := add_at gr (i * 5)
      have f1c := keepCell HB.out f1
      have c3 := keepCell HB.out CB2.out.cells.2.2.2.1
      obtain ⟨k0, k1, k2, k3, k4⟩ := HN.out
      simp only [Nat.zero_add] at k0 k1 k2 k3 k4
      unfold maxLen at hdm
      clear hrow b3 f1 e0 e1 e2 e3 e4 x0 x1 x2 x3 x4 hle1
      go_upto_region 13 with fail
      change Code.wp _ _ _ _ (put5 wc gr (i * 5) (.int .i64 Z.kd) (.int .i64 Z.nm) (.string Z.st) (.slice zo1 zn1 zc1) (.slice zo2 zn2 zc2))
      have hw2 := HSZ2.out
      have hwb := HB.out.size
      have hzc := (ST2.out.on HB.out).zero
      have hcn := CB2.out.1.onto HB.out
      have hbP : Below w.heap.size w (put5 wc gr (i * 5) (.int .i64 Z.kd) (.int .i64 Z.nm) (.string Z.st) (.slice zo1 zn1 zc1) (.slice zo2 zn2 zc2)) := put5_bel (vonto ST2.out.bel HB.out) (by omega)
      have LSP := hid (copied_put (i := i) HCc.out hlt (HH.out.onto (fun _ _ => rfl) (fun k hk => ⟨by omega, hk.2, by omega⟩)))
      have CNP := hid (hcn.eqs (put5_heap wc gr (i * 5) (.int .i64 Z.kd) (.int .i64 Z.nm) (.string Z.st) (.slice zo1 zn1 zc1) (.slice zo2 zn2 zc2) w1.heap.size (by omega)))
      have ZP := hid (z5_far hzc (put5_heap wc gr (i * 5) (.int .i64 Z.kd) (.int .i64 Z.nm) (.string Z.st) (.slice zo1 zn1 zc1) (.slice zo2 zn2 zc2) (w.heap.size + 1 + 1) (by omega)))
      have HPS := hid (put5_size wc gr (i * 5) (.int .i64 Z.kd) (.int .i64 Z.nm) (.string Z.st) (.slice zo1 zn1 zc1) (.slice zo2 zn2 zc2))
      clear v0 v1 v2 v3 v4 vf ha f1c c3 k0 k1 k2 k3 k4 hzc hcn hw2
      generalize (put5 wc gr (i * 5) (.int .i64 Z.kd) (.int .i64 Z.nm) (.string Z.st) (.slice zo1 zn1 zc1) (.slice zo2 zn2 zc2)) = WP at hbP LSP CNP ZP HPS ⊢
      obtain ⟨m0, m1, m2, m3, m4⟩ := CNP.out
      simp only [Nat.zero_add] at m0 m1 m2 m3 m4
      cases hso : setP t r U with
      | none =>
        have HNO : Hid (setP T (⟨⟨#[]⟩, (i : Int), true⟩ :: r) U = none) := hid (by rw [HSS.out, hso]; rfl)
        have CK := hid (fun W => kept5_no T (some ⟨gr, 0, none⟩) T.ls.length d1 y2 z2 d2 W)
        simp only [vv, zeroT, VT.kd, VT.nm, VT.st] at CK
        simp only [Option.isSome_none]
        go_wp2_with fail
        go_at_call 56
        refine (CK.out _).mono ?_
        rintro e wk ⟨rfl, hbk⟩
        have ZK := hid (ZP.out.onto hbk)
        have HBK := hid (vonto hbP hbk)
        clear hbk m0 m1 m2 m3 m4 CK
        obtain ⟨⟨q0, q1, q2, q3, q4⟩, qf⟩ := ZK.out
        go_wp2_with fail
        obtain ⟨r0, r1, r2, r3, r4⟩ := z5_put ZK.out zeroT (.slice none 0 0) (.slice none 0 0)
        simp only [put5, Nat.zero_add, zeroT, VT.kd, VT.nm, VT.st] at r0 r1 r2 r3 r4
        refine bodyPost_ret (v := .tuple #[vv zeroT (.slice none 0 0) (.slice none 0 0), .bool false]) (by simp [results, Tryz.results29, go_sem, vv, zeroT, VT.kd, VT.nm, VT.st, r0, r1, r2, r3, r4]) rfl ⟨zeroT, _, _, by rw [HNO.out]; rfl, by rw [HNO.out]; rfl, hs_zero _ _, ?_⟩
        exact box5_bel HBK.out _ (by omega) _ _ _ _ _
      | some z =>
        have HNO : Hid (setP T (⟨⟨#[]⟩, (i : Int), true⟩ :: r) U = some (repT T ⟨⟨#[]⟩, (i : Int), true⟩ i Z)) := hid (by rw [HSS.out, HZ.out, hso]; rfl)
        have CK := hid (fun W => kept5_yes T (some ⟨gr, 0, none⟩) T.ls.length d1 y2 z2 d2 W)
        simp only [vv] at CK
        simp only [Option.isSome_some]
        go_wp2_with fail
        go_at_call 56
        refine (CK.out _).mono ?_
        rintro e wk ⟨rfl, hbk⟩
        have ZK := hid (ZP.out.onto hbk)
        have HBK := hid (vonto hbP hbk)
        have HKB := hid hbk
        clear hbk m0 m1 m2 m3 m4 CK
        obtain ⟨⟨q0, q1, q2, q3, q4⟩, qf⟩ := ZK.out
        go_wp2_with fail
        obtain ⟨r0, r1, r2, r3, r4⟩ := z5_put ZK.out T (.slice (some ⟨gr, 0, none⟩) T.ls.length d1) (.slice y2 z2 d2)
        simp only [put5, Nat.zero_add] at r0 r1 r2 r3 r4
        have hae : (repT T ⟨⟨#[]⟩, (i : Int), true⟩ i Z).kd = T.kd ∧ (repT T ⟨⟨#[]⟩, (i : Int), true⟩ i Z).nm = T.nm ∧ (repT T ⟨⟨#[]⟩, (i : Int), true⟩ i Z).st = T.st ∧ (repT T ⟨⟨#[]⟩, (i : Int), true⟩ i Z).ls = T.ls.set i Z ∧ (repT T ⟨⟨#[]⟩, (i : Int), true⟩ i Z).ks = T.ks ∧ (repT T ⟨⟨#[]⟩, (i : Int), true⟩ i Z).vs = T.vs := by cases T; exact ⟨rfl, rfl, rfl, rfl, rfl, rfl⟩
        obtain ⟨a0, a1, a2, a3, a4, a5⟩ := hae
        have hV0 : T.vs = [] := List.eq_nil_of_length_eq_zero HVS.out
        have hK0 : T.ks = [] := List.eq_nil_of_length_eq_zero ((hv_ks HT.out).trans HVS.out)
        have hks := HKB.out.size
        have hps := HPS.out
        refine bodyPost_ret (v := .tuple #[vv (repT T ⟨⟨#[]⟩, (i : Int), true⟩ i Z) (.slice (some ⟨gr, 0, none⟩) T.ls.length d1) (.slice y2 z2 d2), .bool true]) (by simp [results, Tryz.results29, go_sem, vv, a0, a1, a2, r0, r1, r2, r3, r4]) rfl ⟨repT T ⟨⟨#[]⟩, (i : Int), true⟩ i Z, _, _, by rw [HNO.out]; rfl, by rw [HNO.out]; rfl, ?_, box5_bel HBK.out _ (by omega) _ _ _ _ _⟩
        change HS (put5 wk (w.heap.size + 1 + 1) 0 (.int .i64 T.kd) (.int .i64 T.nm) (.string T.st) (.slice (some ⟨gr, 0, none⟩) T.ls.length d1) (.slice y2 z2 d2)) (fun k => w.heap.size ≤ k ∧ k < (put5 wk (w.heap.size + 1 + 1) 0 (.int .i64 T.kd) (.int .i64 T.nm) (.string T.st) (.slice (some ⟨gr, 0, none⟩) T.ls.length d1) (.slice y2 z2 d2)).heap.size) _ _ _
        rw [put5_size]
        refine hs_of (by rw [a0, a1, a2]; exact HT.out.wfs) (by
          rw [a3]
          refine LSP.out.onto (fun k hk => ?_) (fun k hk => ⟨by omega, by omega⟩)
          rw [put5_heap _ _ _ _ _ _ _ _ _ (by omega), HKB.out.block k (by omega)]) (by
          rw [a4, a5, hV0, hK0, HYN.out]
          exact ms_nil _ _)
  · have h5b : (T.kd != 5) = true := by simpa using h5
    have HNO := hid (setP_no (T := T) (s := ⟨⟨#[]⟩, (i : Int), true⟩) (r := r) (x := U) (by unfold idxT; rw [if_pos rfl, if_neg (fun h => h5 h.1)]) (fun _ => by
      unfold putT idxT; simp only [if_true]; rw [if_neg (fun h => h5 h.1)]; simp only; rw [if_neg (fun h => h5 h.1)]))
    clear h5
    go_wp2_with fail
    obtain ⟨r0, r1, r2, r3, r4⟩ := HRR.out
    refine bodyPost_ret (v := .tuple #[vv zeroT (.slice none 0 0) (.slice none 0 0), .bool false]) (by simp [results, Tryz.results29, go_sem, vv, zeroT, VT.kd, VT.nm, VT.st, r0, r1, r2, r3, r4]) rfl ⟨zeroT, _, _, by rw [HNO.out]; rfl, by rw [HNO.out]; rfl, hs_zero _ _, ?_⟩
    exact box5_bel ST2.out.bel _ (by omega) _ _ _ _ _
end Go.Proofs.YtjcejjejlekelaaGreatDoor
namespace Go.Proofs.YtjcejjejlekelaaGreatDoor
open Go.RowKit

set_option maxRecDepth 100000 in
set_option maxHeartbeats 4000000 in
theorem set5_key (r : List PStep) (hih : Set5Ok r) (key : ByteArray) (hkey : key.size ≤ maxLen) (T U : VT) (x y x' y' v : Value) (w : World) (hpl : plainT T = true) (hsz : szT T ≤ 100000) (hszU : szT U ≤ 1000000) (hT : HV w T x y) (hU : HV w U x' y')
    (hp : InP w (⟨key, 0, false⟩ :: r) v) (hf : ∀ s ∈ r, Frm s) (hl : r.length + 1 ≤ 1000000) :
    Calls Tryz.prog 29 #[vv T x y, v, vv U x' y'] w fun e w' => Set5 (setP T (⟨key, 0, false⟩ :: r) U) w e w' := by
  have HIH := hid hih
  have HT := hid hT
  have HU := hid hU
  have HF := hid hf
  have HPL := hid hpl
  have HP := hid hp
  obtain ⟨a, ⟨op, cp, rfl, hp1, hp2, hp3⟩, hpc⟩ := hp
  obtain rfl := hp3 (by simp)
  unfold maxLen at hp2
  obtain ⟨s0, s1, s2, -⟩ := hpc 0 _ rfl
  rw [add_z5] at s0 s1 s2
  obtain ⟨aL, bM, f, g, pp, qq, o1, o2, c1, c2, rfl, rfl, -, -, hoL, hoM, hK, -, hLc, hMc, -, -, -, -, -, -, -⟩ := HT.out.parts
  obtain ⟨o3, n3, c3, o4, n4, c4, rfl, rfl⟩ := hv_slices hU
  have HK := hid hK
  have HKY := hid hkey
  clear hoL hLc hoM hMc hK hpl hkey
  have ST0 := hid (s5_new w T (.slice o1 T.ls.length c1) (.slice o2 T.vs.length c2) U (.slice o3 n3 c3) (.slice o4 n4 c4))
  have t0 := keepCell ST0.out.bel s0
  have t1 := keepCell ST0.out.bel s1
  have t2 := keepCell ST0.out.bel s2
  clear hih hT hU hf hpc hp3 s0 s1 s2
  simp only [vv]
  simp only [List.length_cons] at hp1 ⊢
  go_enter Tryz.func29, Tryz.ntmps29
  go_wp2_with fail
  have hsz0 : (((w.alloc (.cells #[.int .i64 T.kd, .int .i64 T.nm, .string T.st, .slice o1 T.ls.length c1, .slice o2 T.vs.length c2] 31)).alloc (.cells #[.int .i64 U.kd, .int .i64 U.nm, .string U.st, .slice o3 n3 c3, .slice o4 n4 c4] 31)).alloc (.cells #[.int .i64 0, .int .i64 0, .string ⟨#[]⟩, .slice none 0 0, .slice none 0 0] 31)).heap.size = w.heap.size + 1 + 1 + 1 := by simp
  clear t0 t1 t2
  generalize (((w.alloc (.cells #[.int .i64 T.kd, .int .i64 T.nm, .string T.st, .slice o1 T.ls.length c1, .slice o2 T.vs.length c2] 31)).alloc (.cells #[.int .i64 U.kd, .int .i64 U.nm, .string U.st, .slice o3 n3 c3, .slice o4 n4 c4] 31)).alloc (.cells #[.int .i64 0, .int .i64 0, .string ⟨#[]⟩, .slice none 0 0, .slice none 0 0] 31)) = W0 at ST0 hsz0 ⊢
  have hal := valloc_bel (Below.refl W0.heap.size W0) (.cells #[.string key, .int .i64 0, .bool false] 79)
  have hsb : Sb (W0.alloc (.cells #[.string key, .int .i64 0, .bool false] 79)) (w.heap.size + 1 + 1 + 1) ⟨key, 0, false⟩ := by
    rw [← hsz0]; exact ⟨by simp, by simp, by simp⟩
  have ST1 := hid (ST0.out.on hal)
  have hsz1 : (W0.alloc (.cells #[.string key, .int .i64 0, .bool false] 79)).heap.size = w.heap.size + 4 := by rw [World.size_alloc, hsz0]
  generalize (W0.alloc (.cells #[.string key, .int .i64 0, .bool false] 79)) = W1 at hsb ST1 hsz1 ⊢
  clear hal hsz0 ST0
  have CC := hid (rcopy2_any (szT T) T (Nat.le_refl _) (by omega) (.slice o1 T.ls.length c1) (.slice o2 T.vs.length c2) W1 (HT.out.onto ST1.out.bel))
  simp only [vv] at CC
  go_at_call 26
  refine CC.out.mono ?_
  rintro e w1 ⟨X, Y, rfl, hx, hb1, hco⟩
  obtain ⟨y1, z1, d1, y2, z2, d2, rfl, rfl⟩ := hv_slices hx.hv
  rw [hsz1] at hx hco
  have hs1 := hb1.size
  have hal := valloc_bel (Below.refl w1.heap.size w1) (.cells #[.int .i64 T.kd, .int .i64 T.nm, .string T.st, .slice y1 z1 d1, .slice y2 z2 d2] 31)
  have ST2 := hid ((ST1.out.on hb1).on hal)
  have SB2 := hid ((hsb.onto hb1).onto hal)
  have CB2 := hid (bx_new hx.hv 31)
  have CR2 := hid (Row.new w1 #[.int .i64 T.kd, .int .i64 T.nm, .string T.st, .slice y1 z1 d1, .slice y2 z2 d2] 31)
  have CS2 := hid (HS.onto (S' := fun k => w.heap.size + 4 ≤ k ∧ k < w1.heap.size) hx (fun k hk => hal.block k hk.2) (fun k hk => hk))
  have hsz2 := World.size_alloc w1 (.cells #[.int .i64 T.kd, .int .i64 T.nm, .string T.st, .slice y1 z1 d1, .slice y2 z2 d2] 31)
  clear hco CC hx ST1 hsb hb1 hal
  obtain ⟨⟨q0, q1, q2, q3, q4⟩, qf⟩ := ST2.out.zero
  obtain ⟨b0, b1, b2, b3, b4⟩ := ST2.out.node
  have f0 := SB2.out.c0
  have f2 := SB2.out.c2
  simp only [Nat.zero_add] at b0 b1 b2 b3 b4
  have HRR := hid (z5_put ST2.out.zero zeroT (.slice none 0 0) (.slice none 0 0))
  simp only [put5, Nat.zero_add, zeroT, VT.kd, VT.nm, VT.st] at HRR
  by_cases h6 : T.kd = 6
  · replace b0 := b0.trans (congrArg (fun z => some (Value.int .i64 z)) h6)
    have H6 := hid h6
    have hkg := key_get (s := ⟨key, 0, false⟩) HK.out rfl
    clear h6
    have CG := hid (fun X (hX : Below w.heap.size w X) => get_at T _ _ key w X HT.out hX)
    simp only [vv, H6.out] at CG
    go_wp2_with fail
    go_at_call 54
    refine (CG.out _ ST2.out.bel).mono ?_
    rintro e wg ⟨R, X, Y, rfl, hR, hvR, hbg⟩
    obtain ⟨u1, v1, t1, u2, v2, t2, rfl, rfl⟩ := hv_slices hvR
    have HVR := hid hvR
    have HXB := hid (valloc_bel (Below.refl w1.heap.size w1) (.cells #[.int .i64 T.kd, .int .i64 T.nm, .string T.st, .slice y1 z1 d1, .slice y2 z2 d2] 31))
    clear q0 q1 q2 q3 q4 qf b0 b1 b2 b3 b4 CG hvR
    generalize (w1.alloc (.cells #[.int .i64 T.kd, .int .i64 T.nm, .string T.st, .slice y1 z1 d1, .slice y2 z2 d2] 31)) = W2 at ST2 SB2 CB2 CR2 CS2 hsz2 HRR HXB f0 f2 hbg ⊢
    have hal2 := valloc_bel (Below.refl wg.heap.size wg) (.cells #[.int .i64 R.kd, .int .i64 R.nm, .string R.st, .slice u1 v1 t1, .slice u2 v2 t2] 31)
    have hb3 := vonto hbg hal2
    have ST3 := hid (ST2.out.on hb3)
    have SB3 := hid (SB2.out.onto hb3)
    have CN3 := hid (CB2.out.1.onto hb3)
    have YB3 := hid (bx_new (HVR.out.onto (vonto ST2.out.bel hbg)) 31).1
    have YR3 := hid (Row.new wg #[.int .i64 R.kd, .int .i64 R.nm, .string R.st, .slice u1 v1 t1, .slice u2 v2 t2] 31)
    have CS3 := hid (CS2.out.onto (S' := fun k => w.heap.size + 4 ≤ k ∧ k < w1.heap.size) (fun k hk => hb3.block k (by omega)) (fun k hk => hk))
    have hwg := hbg.size
    have HS3 := hid (World.size_alloc wg (.cells #[.int .i64 R.kd, .int .i64 R.nm, .string R.st, .slice u1 v1 t1, .slice u2 v2 t2] 31))
    have hHR : Hid (R = (getO T key).getD zeroT) := hid hR
    have hlow : w.heap.size + 4 < wg.heap.size := by omega
    have hlow2 : w1.heap.size < wg.heap.size := by omega
    clear hR hbg hal2 hb3 hwg ST2 SB2 CB2 CR2 CS2 hsz2 HRR f0 f2
    by_cases hno : getO T key = none ∧ ¬ r = []
    · obtain ⟨hno, hr0⟩ := hno
      have hrl : 0 < r.length := List.length_pos_iff.2 hr0
      have HNO := hid (setP_no (T := T) (s := ⟨key, 0, false⟩) (r := r) (x := U) (by
        cases hi : idxT T ⟨key, 0, false⟩ with
        | none => rfl
        | some i =>
          obtain ⟨t, ht⟩ := idx_kid HK.out hi
          rw [hi] at hkg
          simp only [Option.bind_some, ht] at hkg
          rw [hno] at hkg; cases hkg) (fun h => absurd h hr0))
      have ehas : (getO T key).isSome = false := by rw [hno]; rfl
      simp only [ehas]
      clear hno hr0 hkg ehas
      obtain ⟨⟨q0, q1, q2, q3, q4⟩, qf⟩ := ST3.out.zero
      go_wp2_with fail
      obtain ⟨r0, r1, r2, r3, r4⟩ := z5_put ST3.out.zero zeroT (.slice none 0 0) (.slice none 0 0)
      simp only [put5, Nat.zero_add, zeroT, VT.kd, VT.nm, VT.st] at r0 r1 r2 r3 r4
      refine bodyPost_ret (v := .tuple #[vv zeroT (.slice none 0 0) (.slice none 0 0), .bool false]) (by simp [results, Tryz.results29, go_sem, vv, zeroT, VT.kd, VT.nm, VT.st, r0, r1, r2, r3, r4]) rfl ⟨zeroT, _, _, by rw [HNO.out]; rfl, by rw [HNO.out]; rfl, hs_zero _ _, ?_⟩
      exact box5_bel ST3.out.bel _ (by omega) _ _ _ _ _
    have HSS : Hid (setP T (⟨key, 0, false⟩ :: r) U = (setP R r U).bind (putT T ⟨key, 0, false⟩)) ∧ Hid (plainT R = true) ∧ szT R ≤ 100000 := by
      cases hg : getO T key with
      | none =>
        have hr0 : r = [] := Classical.byContradiction fun h => hno ⟨hg, h⟩
        have hRz : R = zeroT := by rw [hHR.out, hg]; rfl
        subst hr0
        rw [hRz]
        exact ⟨hid (by rw [setP_one]; rfl), hid plain_zero, by decide⟩
      | some t =>
        have hRt : R = t := by rw [hHR.out, hg]; rfl
        rw [hRt]
        cases hi : idxT T ⟨key, 0, false⟩ with
        | none => rw [hi, hg] at hkg; cases hkg
        | some i =>
          rw [hi, hg] at hkg
          simp only [Option.bind_some] at hkg
          refine ⟨hid ?_, hid ?_, ?_⟩
          · rw [setP_step r U hi hkg]
            have : putT T ⟨key, 0, false⟩ = fun z => some (repT T ⟨key, 0, false⟩ i z) := by funext z; unfold putT; rw [hi]
            rw [this]
            cases setP t r U <;> rfl
          · have := HPL.out
            rw [plainT_eq, Bool.and_eq_true, Bool.and_eq_true] at this
            exact (plainL_get _).1 this.2 i t (by unfold kidT at hkg; rw [if_neg (by simp)] at hkg; exact hkg)
          · have := kid_small hkg; omega
    obtain ⟨HSS, HPR, hszR⟩ := HSS
    have HPD := hid (inp_tl (m := 1) HP.out (by simp))
    simp only [List.drop_one, List.tail_cons, List.length_cons, Nat.add_sub_cancel, add_o5] at HPD
    have hle1 : (1 : Int) ≤ (r.length : Int) + 1 := by omega
    have hgd : getO T key = none → r.length = 0 := fun h => by
      have : r = [] := Classical.byContradiction fun h' => hno ⟨h, h'⟩
      rw [this]; rfl
    clear hkg hno
    generalize hth : (getO T key).isSome = there
    have hgo : there = false → ¬ (1 : Int) < (r.length : Int) + 1 := fun h => by
      have := hgd (by rw [h] at hth; simpa using hth)
      omega
    clear hth hgd
    cases there with
    | false =>
      have hgo' := hgo rfl
      clear hgo
      go_upto_region 19 with fail
      generalize (wg.alloc (.cells #[.int .i64 R.kd, .int .i64 R.nm, .string R.st, .slice u1 v1 t1, .slice u2 v2 t2] 31)) = W3 at ST3 SB3 CN3 YB3 YR3 CS3 HS3 ⊢
      obtain ⟨x0, x1, x2, x3, x4⟩ := ST3.out.nodx
      obtain ⟨l0, l1, l2, l3, l4⟩ := YB3.out
      simp only [Nat.zero_add] at x0 x1 x2 x3 x4 l0 l1 l2 l3 l4
      have CI := hid (fun X (hX : Below W3.heap.size W3 X) => HIH.out R U _ _ _ _ _ X HPR.out hszR hszU (HVR.out.onto (vonto ST3.out.bel hX)) (HU.out.onto (vonto ST3.out.bel hX)) (HPD.out.onto (vonto ST3.out.bel hX)) HF.out (by omega))
      simp only [vv] at CI
      have HKEEP : Hid (∀ X : World, X.heap[w.heap.size + 1]? = W3.heap[w.heap.size + 1]? → X.cell? ⟨w.heap.size + 1, 0, none⟩ = some (.int .i64 U.kd) ∧ X.cell? ⟨w.heap.size + 1, 1, none⟩ = some (.int .i64 U.nm) ∧ X.cell? ⟨w.heap.size + 1, 2, none⟩ = some (.string U.st) ∧ X.cell? ⟨w.heap.size + 1, 3, none⟩ = some (.slice o3 n3 c3) ∧ X.cell? ⟨w.heap.size + 1, 4, none⟩ = some (.slice o4 n4 c4)) := hid (by
        intro X hX
        have e2 : ∀ o, X.cell? ⟨w.heap.size + 1, o, none⟩ = W3.cell? ⟨w.heap.size + 1, o, none⟩ := fun o => World.cell?_of_block (w := W3) hX
        exact ⟨(e2 0).trans x0, (e2 1).trans x1, (e2 2).trans x2, (e2 3).trans x3, (e2 4).trans x4⟩)
      have hb3' : w.heap.size + 1 < W3.heap.size := by have := ST3.out.big; omega
      refine wp_region_h (S := fun X => X.cell? ⟨w.heap.size + 1, 0, none⟩ = some (.int .i64 U.kd) ∧ X.cell? ⟨w.heap.size + 1, 1, none⟩ = some (.int .i64 U.nm) ∧ X.cell? ⟨w.heap.size + 1, 2, none⟩ = some (.string U.st) ∧ X.cell? ⟨w.heap.size + 1, 3, none⟩ = some (.slice o3 n3 c3) ∧ X.cell? ⟨w.heap.size + 1, 4, none⟩ = some (.slice o4 n4 c4)) 10 (by kernel_rfl) (by kernel_rfl) ?_
      have hS0 := HKEEP.out W3.drew rfl
      refine take_h (i := 1) (v := ?_) rfl (by kernel_rfl) (by kernel_rfl) (by kernel_rfl) (fun _ _ _ h => h) (by rfl) ?_ hS0 ?_
      rotate_left
      · (intro X hX; go_simp; try with_reducible rfl)
      simp only [Act.put, List.setIfInBounds_toArray, List.set_cons_zero, List.set_cons_succ]
      refine take_h (i := 2) (v := ?_) rfl (by kernel_rfl) (by kernel_rfl) (by kernel_rfl) (fun _ _ _ h => h) (by rfl) ?_ hS0 ?_
      rotate_left
      · (intro X hX; go_simp; try with_reducible rfl)
      simp only [Act.put, List.setIfInBounds_toArray, List.set_cons_zero, List.set_cons_succ]
      refine take_h (i := 3) (v := ?_) rfl (by kernel_rfl) (by kernel_rfl) (by kernel_rfl) (fun _ _ _ h => h) (by rfl) ?_ hS0 ?_
      rotate_left
      · (intro X hX; go_simp; try with_reducible rfl)
      simp only [Act.put, List.setIfInBounds_toArray, List.set_cons_zero, List.set_cons_succ]
      generalize (if cp = 1 then some a else some ⟨a.block, a.off + 3, none⟩) = oa at HPD CI ⊢
      refine step_h (i := 0) rfl (by kernel_rfl) ?_
      intro KK hKK
      go_simp
      refine hKK.out _ _ hS0 (fun _ => ?_)
      clear hKK KK
      refine step_h (i := 4) rfl (by kernel_rfl) ?_
      intro KK hKK
      go_simp
      go_wp2_with (go_at_call 29; go_must (refine (CI.out _ (Below.refl _ _).drew).mono ?_; rintro e wz ⟨Z, X, Y, rfl, hZ, hfg, hbz⟩; have HZ := hid hZ; clear hZ; simp only [vv]))
      obtain ⟨ro1, rn1, rc1, ro2, rn2, rc2, rfl, rfl⟩ := hv_slices hfg.hv
      replace hbz : Below W3.heap.size W3 wz := vonto (Below.refl W3.heap.size W3).drew hbz
      replace hfg : HS wz (fun k => W3.heap.size ≤ k ∧ k < wz.heap.size) Z (.slice ro1 rn1 rc1) (.slice ro2 rn2 rc2) := hfg
      have hS1 := HKEEP.out wz (hbz.block _ hb3')
      refine hKK.out _ _ hS1 (fun _ => ?_)
      clear hKK KK hS0
      refine take_h (i := 5) (v := ?_) rfl (by kernel_rfl) (by kernel_rfl) (by kernel_rfl) (fun _ _ _ h => h) (by rfl) ?_ hS1 ?_
      rotate_left
      · (intro X hX; go_simp; try with_reducible rfl)
      simp only [Act.put, List.setIfInBounds_toArray, List.set_cons_zero, List.set_cons_succ]
      refine take_h (i := 6) (v := ?_) rfl (by kernel_rfl) (by kernel_rfl) (by kernel_rfl) (fun _ _ _ h => h) (by rfl) ?_ hS1 ?_
      rotate_left
      · (intro X hX; go_simp; try with_reducible rfl)
      simp only [Act.put, List.setIfInBounds_toArray, List.set_cons_zero, List.set_cons_succ]
      refine take_h (i := 7) (v := ?_) rfl (by kernel_rfl) (by kernel_rfl) (by kernel_rfl) (fun _ _ _ h => h) (by rfl) ?_ hS1 ?_
      rotate_left
      · (intro X hX; go_simp; try with_reducible rfl)
      simp only [Act.put, List.setIfInBounds_toArray, List.set_cons_zero, List.set_cons_succ]
      have h3s := HS3.out
      have hfar := hid (fun k (hk : ¬ k = wg.heap.size) => put5_heap wz wg.heap.size 0 (.int .i64 Z.kd) (.int .i64 Z.nm) (.string Z.st) (.slice ro1 rn1 rc1) (.slice ro2 rn2 rc2) k hk)
      have hS2 := HKEEP.out (put5 wz wg.heap.size 0 (.int .i64 Z.kd) (.int .i64 Z.nm) (.string Z.st) (.slice ro1 rn1 rc1) (.slice ro2 rn2 rc2)) ((hfar.out _ (by omega)).trans (hbz.block _ hb3'))
      simp only [put5, Nat.zero_add] at hS2
      have YRz := hid (YR3.out.onto (hbz.block _ (by omega)))
      have yf := YRz.out.frozen
      have p0 := keepCell hbz l0; have p1 := keepCell hbz l1; have p2 := keepCell hbz l2; have p3 := keepCell hbz l3; have p4 := keepCell hbz l4
      have HB3 := hid hbz
      have HFG := hid hfg
      clear hbz hfg l0 l1 l2 l3 l4 x0 x1 x2 x3 x4 h3s
      refine step_h (i := 8) rfl (by kernel_rfl) ?_
      intro KK hKK
      go_simp
      refine hKK.out _ _ hS2 (fun _ => ?_)
      clear hKK KK hS1 p0 p1 p2 p3 p4 yf
      refine take_h (i := 9) (v := ?_) rfl (by kernel_rfl) (by kernel_rfl) (by kernel_rfl) (fun _ _ _ h => h) (by rfl) ?_ hS2 ?_
      rotate_left
      · (intro X hX; go_simp; try with_reducible rfl)
      simp only [Act.put, List.setIfInBounds_toArray, List.set_cons_zero, List.set_cons_succ]
      refine wpAnyH_done (by kernel_rfl) ?_ _
      clear hS2
      go_upto_region 20 with fail
      change Code.wp _ _ _ _ (put5 wz wg.heap.size 0 (.int .i64 Z.kd) (.int .i64 Z.nm) (.string Z.st) (.slice ro1 rn1 rc1) (.slice ro2 rn2 rc2))
      have h3s := HS3.out
      have hzs := HB3.out.size
      have hbig := ST3.out.big
      have HCN := hid ((CN3.out.onto HB3.out).eqs (hfar.out w1.heap.size (by omega)))
      have HSB := hid ((World.cell?_of_block (w := wz) (a := ⟨w.heap.size + 1 + 1 + 1, 0, none⟩) (hfar.out (w.heap.size + 1 + 1 + 1) (by omega))).trans (SB3.out.onto HB3.out).c0)
      have HZP := hid (z5_far (ST3.out.on HB3.out).zero (hfar.out (w.heap.size + 1 + 1) (by omega)))
      have HYN := hid (put5_node YRz.out 0 (by simp) Z (.slice ro1 rn1 rc1) (.slice ro2 rn2 rc2))
      have hps := put5_size wz wg.heap.size 0 (.int .i64 Z.kd) (.int .i64 Z.nm) (.string Z.st) (.slice ro1 rn1 rc1) (.slice ro2 rn2 rc2)
      have HCS := hid (CS3.out.onto (S' := fun k => w.heap.size + 4 ≤ k ∧ k < (put5 wz wg.heap.size 0 (.int .i64 Z.kd) (.int .i64 Z.nm) (.string Z.st) (.slice ro1 rn1 rc1) (.slice ro2 rn2 rc2)).heap.size) (fun k hk => (hfar.out k (by omega)).trans (HB3.out.block k (by omega))) (fun k hk => ⟨hk.1, by omega⟩))
      have HZS := hid (HFG.out.onto (S' := fun k => w.heap.size + 4 ≤ k ∧ k < (put5 wz wg.heap.size 0 (.int .i64 Z.kd) (.int .i64 Z.nm) (.string Z.st) (.slice ro1 rn1 rc1) (.slice ro2 rn2 rc2)).heap.size) (fun k hk => hfar.out k (by omega)) (fun k hk => ⟨by omega, by omega⟩))
      have hbP : Below w.heap.size w (put5 wz wg.heap.size 0 (.int .i64 Z.kd) (.int .i64 Z.nm) (.string Z.st) (.slice ro1 rn1 rc1) (.slice ro2 rn2 rc2)) := put5_bel (vonto ST3.out.bel HB3.out) (by omega)
      have hWPb : w.heap.size + 4 ≤ (put5 wz wg.heap.size 0 (.int .i64 Z.kd) (.int .i64 Z.nm) (.string Z.st) (.slice ro1 rn1 rc1) (.slice ro2 rn2 rc2)).heap.size := by omega
      clear hfar YRz h3s hzs hps
      generalize (put5 wz wg.heap.size 0 (.int .i64 Z.kd) (.int .i64 Z.nm) (.string Z.st) (.slice ro1 rn1 rc1) (.slice ro2 rn2 rc2)) = WP at hWPb HCN HSB HZP HYN HCS HZS hbP ⊢
      have hP := HSB.out
      have hvl : T.vs.length ≤ 100000 := by have := (len_sz T).2; omega
      have CW := hid (withS_any (fun k => w.heap.size + 4 ≤ k ∧ k < WP.heap.size) T _ _ key Z _ _ WP HCS.out HZS.out HKY.out hvl)
      simp only [vv] at CW
      obtain ⟨m0, m1, m2, m3, m4⟩ := HCN.out
      obtain ⟨j0, j1, j2, j3, j4⟩ := HYN.out
      simp only [Nat.zero_add] at m0 m1 m2 m3 m4 j0 j1 j2 j3 j4
      go_wp2_with fail
      go_at_call 57
      refine CW.out.mono ?_
      rintro e wW ⟨A, E, oE, mE, cE, hA1, hA2, hE, rfl, hWR, hbW⟩
      have HPW := hid (with_put HPL.out H6.out (s := ⟨key, 0, false⟩) rfl hA1 hA2 hE.out)
      have HWS := hid (with_hs hWR hbW (fun k hk => hk.2))
      have HBW := hid (vonto hbP hbW)
      have HZW := hid (HZP.out.onto hbW)
      have hbws := hbW.size
      clear CW m0 m1 m2 m3 m4 j0 j1 j2 j3 j4 hA1 hA2 hE hWR hbW hP
      cases hso : setP R r U with
      | none =>
        have HNO : Hid (setP T (⟨key, 0, false⟩ :: r) U = none) := hid (by rw [HSS.out, hso]; rfl)
        have CK := hid (fun W => kept5_no (.mk 6 0 ⟨#[]⟩ [] (E.map (·.1)) (E.map (·.2.1))) none 0 0 oE mE cE W)
        simp only [vv, zeroT, VT.kd, VT.nm, VT.st] at CK
        simp only [Option.isSome_none]
        go_wp2_with fail
        go_at_call 56
        refine (CK.out _).mono ?_
        rintro e wk ⟨rfl, hbk⟩
        have ZK := hid (HZW.out.onto hbk)
        have HBK := hid (vonto HBW.out hbk)
        clear hbk CK
        obtain ⟨⟨q0, q1, q2, q3, q4⟩, qf⟩ := ZK.out
        go_wp2_with fail
        obtain ⟨r0, r1, r2, r3, r4⟩ := z5_put ZK.out zeroT (.slice none 0 0) (.slice none 0 0)
        simp only [put5, Nat.zero_add, zeroT, VT.kd, VT.nm, VT.st] at r0 r1 r2 r3 r4
        refine bodyPost_ret (v := .tuple #[vv zeroT (.slice none 0 0) (.slice none 0 0), .bool false]) (by simp [results, Tryz.results29, go_sem, vv, zeroT, VT.kd, VT.nm, VT.st, r0, r1, r2, r3, r4]) rfl ⟨zeroT, _, _, by rw [HNO.out]; rfl, by rw [HNO.out]; rfl, hs_zero _ _, ?_⟩
        exact box5_bel HBK.out _ (by omega) _ _ _ _ _
      | some z =>
        have HNO : Hid (setP T (⟨key, 0, false⟩ :: r) U = some (.mk 6 0 ⟨#[]⟩ [] (E.map (·.1)) (E.map (·.2.1)))) := hid (by rw [HSS.out, hso, ← HPW.out, HZ.out, hso]; rfl)
        have CK := hid (fun W => kept5_yes (.mk 6 0 ⟨#[]⟩ [] (E.map (·.1)) (E.map (·.2.1))) none 0 0 oE mE cE W)
        simp only [vv, VT.kd, VT.nm, VT.st] at CK
        simp only [Option.isSome_some]
        go_wp2_with fail
        go_at_call 56
        refine (CK.out _).mono ?_
        rintro e wk ⟨rfl, hbk⟩
        have ZK := hid (HZW.out.onto hbk)
        have HBK := hid (vonto HBW.out hbk)
        have HKB := hid hbk
        clear hbk CK
        obtain ⟨⟨q0, q1, q2, q3, q4⟩, qf⟩ := ZK.out
        go_wp2_with fail
        obtain ⟨r0, r1, r2, r3, r4⟩ := z5_put ZK.out (.mk 6 0 ⟨#[]⟩ [] (E.map (·.1)) (E.map (·.2.1))) (.slice none 0 0) (.slice oE mE cE)
        simp only [put5, Nat.zero_add, VT.kd, VT.nm, VT.st] at r0 r1 r2 r3 r4
        have hks := HKB.out.size
        refine bodyPost_ret (v := .tuple #[vv (.mk 6 0 ⟨#[]⟩ [] (E.map (·.1)) (E.map (·.2.1))) (.slice none 0 0) (.slice oE mE cE), .bool true]) (by simp [results, Tryz.results29, go_sem, vv, VT.kd, VT.nm, VT.st, r0, r1, r2, r3, r4]) rfl ⟨(.mk 6 0 ⟨#[]⟩ [] (E.map (·.1)) (E.map (·.2.1))), _, _, by rw [HNO.out]; rfl, by rw [HNO.out]; rfl, ?_, box5_bel HBK.out _ (by omega) _ _ _ _ _⟩
        exact put5_hs (lo := w.heap.size + 3) (by omega) (HWS.out.onto (fun k hk => HKB.out.block k (by rcases hk with h | h <;> omega)) (fun k hk => by rcases hk with h | h <;> exact ⟨by omega, by omega⟩)) (by omega)
    | true =>
      clear hgo
      go_upto_region 19 with fail
      generalize (wg.alloc (.cells #[.int .i64 R.kd, .int .i64 R.nm, .string R.st, .slice u1 v1 t1, .slice u2 v2 t2] 31)) = W3 at ST3 SB3 CN3 YB3 YR3 CS3 HS3 ⊢
      obtain ⟨x0, x1, x2, x3, x4⟩ := ST3.out.nodx
      obtain ⟨l0, l1, l2, l3, l4⟩ := YB3.out
      simp only [Nat.zero_add] at x0 x1 x2 x3 x4 l0 l1 l2 l3 l4
      have CI := hid (fun X (hX : Below W3.heap.size W3 X) => HIH.out R U _ _ _ _ _ X HPR.out hszR hszU (HVR.out.onto (vonto ST3.out.bel hX)) (HU.out.onto (vonto ST3.out.bel hX)) (HPD.out.onto (vonto ST3.out.bel hX)) HF.out (by omega))
      simp only [vv] at CI
      have HKEEP : Hid (∀ X : World, X.heap[w.heap.size + 1]? = W3.heap[w.heap.size + 1]? → X.cell? ⟨w.heap.size + 1, 0, none⟩ = some (.int .i64 U.kd) ∧ X.cell? ⟨w.heap.size + 1, 1, none⟩ = some (.int .i64 U.nm) ∧ X.cell? ⟨w.heap.size + 1, 2, none⟩ = some (.string U.st) ∧ X.cell? ⟨w.heap.size + 1, 3, none⟩ = some (.slice o3 n3 c3) ∧ X.cell? ⟨w.heap.size + 1, 4, none⟩ = some (.slice o4 n4 c4)) := hid (by
        intro X hX
        have e2 : ∀ o, X.cell? ⟨w.heap.size + 1, o, none⟩ = W3.cell? ⟨w.heap.size + 1, o, none⟩ := fun o => World.cell?_of_block (w := W3) hX
        exact ⟨(e2 0).trans x0, (e2 1).trans x1, (e2 2).trans x2, (e2 3).trans x3, (e2 4).trans x4⟩)
      have hb3' : w.heap.size + 1 < W3.heap.size := by have := ST3.out.big; omega
      refine wp_region_h (S := fun X => X.cell? ⟨w.heap.size + 1, 0, none⟩ = some (.int .i64 U.kd) ∧ X.cell? ⟨w.heap.size + 1, 1, none⟩ = some (.int .i64 U.nm) ∧ X.cell? ⟨w.heap.size + 1, 2, none⟩ = some (.string U.st) ∧ X.cell? ⟨w.heap.size + 1, 3, none⟩ = some (.slice o3 n3 c3) ∧ X.cell? ⟨w.heap.size + 1, 4, none⟩ = some (.slice o4 n4 c4)) 10 (by kernel_rfl) (by kernel_rfl) ?_
      have hS0 := HKEEP.out W3.drew rfl
      refine take_h (i := 1) (v := ?_) rfl (by kernel_rfl) (by kernel_rfl) (by kernel_rfl) (fun _ _ _ h => h) (by rfl) ?_ hS0 ?_
      rotate_left
      · (intro X hX; go_simp; try with_reducible rfl)
      simp only [Act.put, List.setIfInBounds_toArray, List.set_cons_zero, List.set_cons_succ]
      refine take_h (i := 2) (v := ?_) rfl (by kernel_rfl) (by kernel_rfl) (by kernel_rfl) (fun _ _ _ h => h) (by rfl) ?_ hS0 ?_
      rotate_left
      · (intro X hX; go_simp; try with_reducible rfl)
      simp only [Act.put, List.setIfInBounds_toArray, List.set_cons_zero, List.set_cons_succ]
      refine take_h (i := 3) (v := ?_) rfl (by kernel_rfl) (by kernel_rfl) (by kernel_rfl) (fun _ _ _ h => h) (by rfl) ?_ hS0 ?_
      rotate_left
      · (intro X hX; go_simp; try with_reducible rfl)
      simp only [Act.put, List.setIfInBounds_toArray, List.set_cons_zero, List.set_cons_succ]
      generalize (if cp = 1 then some a else some ⟨a.block, a.off + 3, none⟩) = oa at HPD CI ⊢
      refine step_h (i := 0) rfl (by kernel_rfl) ?_
      intro KK hKK
      go_simp
      refine hKK.out _ _ hS0 (fun _ => ?_)
      clear hKK KK
      refine step_h (i := 4) rfl (by kernel_rfl) ?_
      intro KK hKK
      go_simp
      go_wp2_with (go_at_call 29; go_must (refine (CI.out _ (Below.refl _ _).drew).mono ?_; rintro e wz ⟨Z, X, Y, rfl, hZ, hfg, hbz⟩; have HZ := hid hZ; clear hZ; simp only [vv]))
      obtain ⟨ro1, rn1, rc1, ro2, rn2, rc2, rfl, rfl⟩ := hv_slices hfg.hv
      replace hbz : Below W3.heap.size W3 wz := vonto (Below.refl W3.heap.size W3).drew hbz
      replace hfg : HS wz (fun k => W3.heap.size ≤ k ∧ k < wz.heap.size) Z (.slice ro1 rn1 rc1) (.slice ro2 rn2 rc2) := hfg
      have hS1 := HKEEP.out wz (hbz.block _ hb3')
      refine hKK.out _ _ hS1 (fun _ => ?_)
      clear hKK KK hS0
      refine take_h (i := 5) (v := ?_) rfl (by kernel_rfl) (by kernel_rfl) (by kernel_rfl) (fun _ _ _ h => h) (by rfl) ?_ hS1 ?_
      rotate_left
      · (intro X hX; go_simp; try with_reducible rfl)
      simp only [Act.put, List.setIfInBounds_toArray, List.set_cons_zero, List.set_cons_succ]
      refine take_h (i := 6) (v := ?_) rfl (by kernel_rfl) (by kernel_rfl) (by kernel_rfl) (fun _ _ _ h => h) (by rfl) ?_ hS1 ?_
      rotate_left
      · (intro X hX; go_simp; try with_reducible rfl)
      simp only [Act.put, List.setIfInBounds_toArray, List.set_cons_zero, List.set_cons_succ]
      refine take_h (i := 7) (v := ?_) rfl (by kernel_rfl) (by kernel_rfl) (by kernel_rfl) (fun _ _ _ h => h) (by rfl) ?_ hS1 ?_
      rotate_left
      · (intro X hX; go_simp; try with_reducible rfl)
      simp only [Act.put, List.setIfInBounds_toArray, List.set_cons_zero, List.set_cons_succ]
      have h3s := HS3.out
      have hfar := hid (fun k (hk : ¬ k = wg.heap.size) => put5_heap wz wg.heap.size 0 (.int .i64 Z.kd) (.int .i64 Z.nm) (.string Z.st) (.slice ro1 rn1 rc1) (.slice ro2 rn2 rc2) k hk)
      have hS2 := HKEEP.out (put5 wz wg.heap.size 0 (.int .i64 Z.kd) (.int .i64 Z.nm) (.string Z.st) (.slice ro1 rn1 rc1) (.slice ro2 rn2 rc2)) ((hfar.out _ (by omega)).trans (hbz.block _ hb3'))
      simp only [put5, Nat.zero_add] at hS2
      have YRz := hid (YR3.out.onto (hbz.block _ (by omega)))
      have yf := YRz.out.frozen
      have p0 := keepCell hbz l0; have p1 := keepCell hbz l1; have p2 := keepCell hbz l2; have p3 := keepCell hbz l3; have p4 := keepCell hbz l4
      have HB3 := hid hbz
      have HFG := hid hfg
      clear hbz hfg l0 l1 l2 l3 l4 x0 x1 x2 x3 x4 h3s
      refine step_h (i := 8) rfl (by kernel_rfl) ?_
      intro KK hKK
      go_simp
      refine hKK.out _ _ hS2 (fun _ => ?_)
      clear hKK KK hS1 p0 p1 p2 p3 p4 yf
      refine take_h (i := 9) (v := ?_) rfl (by kernel_rfl) (by kernel_rfl) (by kernel_rfl) (fun _ _ _ h => h) (by rfl) ?_ hS2 ?_
      rotate_left
      · (intro X hX; go_simp; try with_reducible rfl)
      simp only [Act.put, List.setIfInBounds_toArray, List.set_cons_zero, List.set_cons_succ]
      refine wpAnyH_done (by kernel_rfl) ?_ _
      clear hS2
      go_upto_region 20 with fail
      change Code.wp _ _ _ _ (put5 wz wg.heap.size 0 (.int .i64 Z.kd) (.int .i64 Z.nm) (.string Z.st) (.slice ro1 rn1 rc1) (.slice ro2 rn2 rc2))
      have h3s := HS3.out
      have hzs := HB3.out.size
      have hbig := ST3.out.big
      have HCN := hid ((CN3.out.onto HB3.out).eqs (hfar.out w1.heap.size (by omega)))
      have HSB := hid ((World.cell?_of_block (w := wz) (a := ⟨w.heap.size + 1 + 1 + 1, 0, none⟩) (hfar.out (w.heap.size + 1 + 1 + 1) (by omega))).trans (SB3.out.onto HB3.out).c0)
      have HZP := hid (z5_far (ST3.out.on HB3.out).zero (hfar.out (w.heap.size + 1 + 1) (by omega)))
      have HYN := hid (put5_node YRz.out 0 (by simp) Z (.slice ro1 rn1 rc1) (.slice ro2 rn2 rc2))
      have hps := put5_size wz wg.heap.size 0 (.int .i64 Z.kd) (.int .i64 Z.nm) (.string Z.st) (.slice ro1 rn1 rc1) (.slice ro2 rn2 rc2)
      have HCS := hid (CS3.out.onto (S' := fun k => w.heap.size + 4 ≤ k ∧ k < (put5 wz wg.heap.size 0 (.int .i64 Z.kd) (.int .i64 Z.nm) (.string Z.st) (.slice ro1 rn1 rc1) (.slice ro2 rn2 rc2)).heap.size) (fun k hk => (hfar.out k (by omega)).trans (HB3.out.block k (by omega))) (fun k hk => ⟨hk.1, by omega⟩))
      have HZS := hid (HFG.out.onto (S' := fun k => w.heap.size + 4 ≤ k ∧ k < (put5 wz wg.heap.size 0 (.int .i64 Z.kd) (.int .i64 Z.nm) (.string Z.st) (.slice ro1 rn1 rc1) (.slice ro2 rn2 rc2)).heap.size) (fun k hk => hfar.out k (by omega)) (fun k hk => ⟨by omega, by omega⟩))
      have hbP : Below w.heap.size w (put5 wz wg.heap.size 0 (.int .i64 Z.kd) (.int .i64 Z.nm) (.string Z.st) (.slice ro1 rn1 rc1) (.slice ro2 rn2 rc2)) := put5_bel (vonto ST3.out.bel HB3.out) (by omega)
      have hWPb : w.heap.size + 4 ≤ (put5 wz wg.heap.size 0 (.int .i64 Z.kd) (.int .i64 Z.nm) (.string Z.st) (.slice ro1 rn1 rc1) (.slice ro2 rn2 rc2)).heap.size := by omega
      clear hfar YRz h3s hzs hps
      generalize (put5 wz wg.heap.size 0 (.int .i64 Z.kd) (.int .i64 Z.nm) (.string Z.st) (.slice ro1 rn1 rc1) (.slice ro2 rn2 rc2)) = WP at hWPb HCN HSB HZP HYN HCS HZS hbP ⊢
      have hP := HSB.out
      have hvl : T.vs.length ≤ 100000 := by have := (len_sz T).2; omega
      have CW := hid (withS_any (fun k => w.heap.size + 4 ≤ k ∧ k < WP.heap.size) T _ _ key Z _ _ WP HCS.out HZS.out HKY.out hvl)
      simp only [vv] at CW
      obtain ⟨m0, m1, m2, m3, m4⟩ := HCN.out
      obtain ⟨j0, j1, j2, j3, j4⟩ := HYN.out
      simp only [Nat.zero_add] at m0 m1 m2 m3 m4 j0 j1 j2 j3 j4
      go_wp2_with fail
      go_at_call 57
      refine CW.out.mono ?_
      rintro e wW ⟨A, E, oE, mE, cE, hA1, hA2, hE, rfl, hWR, hbW⟩
      have HPW := hid (with_put HPL.out H6.out (s := ⟨key, 0, false⟩) rfl hA1 hA2 hE.out)
      have HWS := hid (with_hs hWR hbW (fun k hk => hk.2))
      have HBW := hid (vonto hbP hbW)
      have HZW := hid (HZP.out.onto hbW)
      have hbws := hbW.size
      clear CW m0 m1 m2 m3 m4 j0 j1 j2 j3 j4 hA1 hA2 hE hWR hbW hP
      cases hso : setP R r U with
      | none =>
        have HNO : Hid (setP T (⟨key, 0, false⟩ :: r) U = none) := hid (by rw [HSS.out, hso]; rfl)
        have CK := hid (fun W => kept5_no (.mk 6 0 ⟨#[]⟩ [] (E.map (·.1)) (E.map (·.2.1))) none 0 0 oE mE cE W)
        simp only [vv, zeroT, VT.kd, VT.nm, VT.st] at CK
        simp only [Option.isSome_none]
        go_wp2_with fail
        go_at_call 56
        refine (CK.out _).mono ?_
        rintro e wk ⟨rfl, hbk⟩
        have ZK := hid (HZW.out.onto hbk)
        have HBK := hid (vonto HBW.out hbk)
        clear hbk CK
        obtain ⟨⟨q0, q1, q2, q3, q4⟩, qf⟩ := ZK.out
        go_wp2_with fail
        obtain ⟨r0, r1, r2, r3, r4⟩ := z5_put ZK.out zeroT (.slice none 0 0) (.slice none 0 0)
        simp only [put5, Nat.zero_add, zeroT, VT.kd, VT.nm, VT.st] at r0 r1 r2 r3 r4
        refine bodyPost_ret (v := .tuple #[vv zeroT (.slice none 0 0) (.slice none 0 0), .bool false]) (by simp [results, Tryz.results29, go_sem, vv, zeroT, VT.kd, VT.nm, VT.st, r0, r1, r2, r3, r4]) rfl ⟨zeroT, _, _, by rw [HNO.out]; rfl, by rw [HNO.out]; rfl, hs_zero _ _, ?_⟩
        exact box5_bel HBK.out _ (by omega) _ _ _ _ _
      | some z =>
        have HNO : Hid (setP T (⟨key, 0, false⟩ :: r) U = some (.mk 6 0 ⟨#[]⟩ [] (E.map (·.1)) (E.map (·.2.1)))) := hid (by rw [HSS.out, hso, ← HPW.out, HZ.out, hso]; rfl)
        have CK := hid (fun W => kept5_yes (.mk 6 0 ⟨#[]⟩ [] (E.map (·.1)) (E.map (·.2.1))) none 0 0 oE mE cE W)
        simp only [vv, VT.kd, VT.nm, VT.st] at CK
        simp only [Option.isSome_some]
        go_wp2_with fail
        go_at_call 56
        refine (CK.out _).mono ?_
        rintro e wk ⟨rfl, hbk⟩
        have ZK := hid (HZW.out.onto hbk)
        have HBK := hid (vonto HBW.out hbk)
        have HKB := hid hbk
        clear hbk CK
        obtain ⟨⟨q0, q1, q2, q3, q4⟩, qf⟩ := ZK.out
        go_wp2_with fail
        obtain ⟨r0, r1, r2, r3, r4⟩ := z5_put ZK.out (.mk 6 0 ⟨#[]⟩ [] (E.map (·.1)) (E.map (·.2.1))) (.slice none 0 0) (.slice oE mE cE)
        simp only [put5, Nat.zero_add, VT.kd, VT.nm, VT.st] at r0 r1 r2 r3 r4
        have hks := HKB.out.size
        refine bodyPost_ret (v := .tuple #[vv (.mk 6 0 ⟨#[]⟩ [] (E.map (·.1)) (E.map (·.2.1))) (.slice none 0 0) (.slice oE mE cE), .bool true]) (by simp [results, Tryz.results29, go_sem, vv, VT.kd, VT.nm, VT.st, r0, r1, r2, r3, r4]) rfl ⟨(.mk 6 0 ⟨#[]⟩ [] (E.map (·.1)) (E.map (·.2.1))), _, _, by rw [HNO.out]; rfl, by rw [HNO.out]; rfl, ?_, box5_bel HBK.out _ (by omega) _ _ _ _ _⟩
        exact put5_hs (lo := w.heap.size + 3) (by omega) (HWS.out.onto (fun k hk => HKB.out.block k (by rcases hk with h | h <;> omega)) (fun k hk => by rcases hk with h | h <;> exact ⟨by omega, by omega⟩)) (by omega)
  · have h6b : (T.kd != 6) = true := by simpa using h6
    have HNO := hid (setP_no (T := T) (s := ⟨key, 0, false⟩) (r := r) (x := U) (by unfold idxT; rw [if_neg (by simp), if_neg h6]) (fun _ => by
      unfold putT idxT; rw [if_neg (by simp), if_neg h6]; simp only; rw [if_neg (by simp), if_neg h6]))
    clear h6
    go_wp2_with fail
    obtain ⟨r0, r1, r2, r3, r4⟩ := HRR.out
    refine bodyPost_ret (v := .tuple #[vv zeroT (.slice none 0 0) (.slice none 0 0), .bool false]) (by simp [results, Tryz.results29, go_sem, vv, zeroT, VT.kd, VT.nm, VT.st, r0, r1, r2, r3, r4]) rfl ⟨zeroT, _, _, by rw [HNO.out]; rfl, by rw [HNO.out]; rfl, hs_zero _ _, ?_⟩
    exact box5_bel ST2.out.bel _ (by omega) _ _ _ _ _
end Go.Proofs.YtjcejjejlekelaaGreatDoor
