
import Derived.Test.YtadbeodeiijhdaaGreatDoorFMathFl
import Derived.Test.YtadbeodeiijhdaaGreatDoorFMathCell
import Derived.Test.YtadbeodeiijhdaaGreatDoorFCeA
/- The document's side: a tree's leaves. -/
namespace Go.Proofs.YtadbeodeiijhdaaGreatDoor
open Go.RowKit

theorem Tryz.infoLeafD : (Tryz.prog.info? 40).map (fun i => (i.zero, i.size, i.bytes)) = some (some (.agg #[.slice none 0 0, .int .i64 0, .int .i64 0, .string ⟨#[]⟩, .slice none 0 0, .slice none 0 0]), 6, 104) := by kernel_rfl
theorem flc_len (E : List LE) : (E.flatMap lcE).length = E.length * 6 := by
  induction E with
  | nil => rfl
  | cons e E ih => rw [List.flatMap_cons, List.length_append, ih]; simp [lcE]; omega
theorem flc_ones {w : World} {B : Nat} {ty : TypeId} {E : List LE} (h : ∀ e ∈ E, w.ownsRow B ty 3 e.u e.p.length (e.p.flatMap sc)) (hb : ∀ e ∈ E, Bare e) : ∀ u ∈ E.flatMap lcE, u.oneCell' = true := by
  intro u hu
  obtain ⟨e, he, h1⟩ := List.mem_flatMap.1 hu
  obtain ⟨o1, n1, c1, o2, n2, c2, hx, hy⟩ := hv_slices ((hb e he).2 w)
  have hs : e.u.oneCell' = true := by rcases h e he with ⟨-, ⟨h1, -⟩ | ⟨g, cap, cur, h1, -⟩⟩ <;> rw [h1] <;> rfl
  simp only [lcE, List.mem_cons, List.not_mem_nil, or_false] at h1
  rcases h1 with rfl | rfl | rfl | rfl | rfl | rfl
  · exact hs
  · rfl
  · rfl
  · rfl
  · rw [hx]; rfl
  · rw [hy]; rfl
theorem own_at6 {w : World} {B : Nat} {ty : TypeId} {v : Value} {n : Nat} {xs : List Value} (h : w.ownsRow B ty 6 v n xs) (hn : 0 < n) : ∃ g c, v = .slice (some ⟨g, 0, none⟩) n c ∧ n ≤ c ∧ c ≤ maxLen ∧ True := by
  rcases h with ⟨-, ⟨rfl, h0⟩ | ⟨g, cap, cur, rfl, -, -, hn, hcm, -, -⟩⟩
  · omega
  · exact ⟨g, cap, rfl, hn, hcm, trivial⟩
/-- leaves gathered since a world -/
structure Gol (W X : World) (l : Value) (E : List LE) : Prop where
  row : X.ownsRow W.heap.size 40 6 l E.length (E.flatMap lcE)
  els : ∀ e ∈ E, X.ownsRow W.heap.size 75 3 e.u e.p.length (e.p.flatMap sc)
  bs : ∀ e ∈ E, Bare e
  bel : Below W.heap.size W X
theorem Gol.onto {W X Y : World} {l : Value} {E : List LE} (h : Gol W X l E) (hb : Below X.heap.size X Y) : Gol W Y l E :=
  ⟨ownsRow_below h.row hb, fun e he => ownsRow_below (h.els e he) hb, h.bs, vonto h.bel hb⟩
theorem Gol.more {W X Y : World} {l l' : Value} {E E' : List LE} (h : Gol W X l E) (hE : ∀ e ∈ E', X.ownsRow W.heap.size 75 3 e.u e.p.length (e.p.flatMap sc)) (hB : ∀ e ∈ E', Bare e)
    (hr : Y.ownsRow W.heap.size 40 6 l' (E.length + E'.length) (E.flatMap lcE ++ E'.flatMap lcE)) (hg : X.grownBy Y l.ownBlock) : Gol W Y l' (E ++ E') := by
  refine ⟨by rw [List.length_append, List.flatMap_append]; exact hr, fun e he => ?_, fun e he => (List.mem_append.1 he).elim (h.bs e) (hB e), ?_⟩
  · rcases List.mem_append.1 he with he | he
    · exact (h.els e he).kept hg (own_apart (h.els e he) h.row (by decide))
    · exact (hE e he).kept hg (own_apart (hE e he) h.row (by decide))
  · exact h.bel.grown hg (by have := h.bel.size; omega) (fun q hq => (h.row.lt q hq).1)
mutual
theorem lfT_ne : ∀ (T : VT) (p : List PStep), 0 < (lfT T p).length
  | .mk k n st L K V, p => by
    rw [lfT]
    split
    · rename_i h; exact lfL_ne L 0 p h.2
    · split
      · rename_i h; exact lfM_ne V K p h.2
      · simp
theorem lfL_ne : ∀ (L : List VT) (i : Nat) (p : List PStep), 0 < L.length → 0 < (lfL L i p).length
  | [], _, _, h => by simp at h
  | a :: L, i, p, _ => by
    rw [lfL, List.length_append]
    have := lfT_ne a (p ++ [lpl i])
    omega
theorem lfM_ne : ∀ (V : List VT) (K : List ByteArray) (p : List PStep), 0 < V.length → 0 < (lfM V K p).length
  | [], _, _, h => by simp at h
  | a :: V, K, p, _ => by
    rw [lfM, List.length_append]
    have := lfT_ne a (p ++ [lky (K.headD ⟨#[]⟩)])
    omega
end
theorem lfA_eq {T : VT} (h : plainT T = true) (hp : 0 < T.ls.length + T.vs.length) (p : List PStep) : lfT T p = lfL T.ls 0 p ++ lfM T.vs T.ks p := by
  rw [plainT_eq, Bool.and_eq_true, Bool.and_eq_true] at h
  obtain ⟨h1, h2⟩ := ndc_len h.1.1
  rw [lfT_at]
  rcases h1 with h1 | h1
  · have h3 : T.vs = [] := by
      rcases h2 with h2 | h2
      · omega
      · exact h2
    rw [h3] at hp ⊢
    rw [if_pos ⟨h1, by simpa using hp⟩]; simp [lfM]
  · rw [h1] at hp ⊢
    rcases h2 with h2 | h2
    · rw [if_neg (by simp), if_pos ⟨h2, by simpa using hp⟩]; simp [lfL]
    · rw [h2] at hp; simp at hp
set_option maxRecDepth 100000 in
set_option maxHeartbeats 8000000 in
theorem dleaf_any : ∀ (N : Nat) (T : VT) (x y : Value) (p : List PStep) (v : Value) (w : World), szT T ≤ N → plainT T = true → HV w T x y → InP w p v → p.length + szT T ≤ 100000 →
    Calls Tryz.prog 14 #[vv T x y, v] w fun e w' => ∃ u E, e = .returned u ∧ Gol w w' u E ∧ E.map LE.pt = lfT T p := by
  intro N
  induction N with
  | zero => intro T x y p v w hN; have := szT_pos T; omega
  | succ N ih =>
  intro T x y p v w hN hpl hT hp hsz
  have HP := hid hp
  have HT := hid hT
  have HIH := hid ih
  have HPL := hid hpl
  obtain ⟨a, ⟨op, cp, rfl, hp1, hp2, hp3⟩, hpc⟩ := hp
  have HPC := hid hpc
  unfold maxLen at hp2
  obtain ⟨o1, n1, c1, o2, n2, c2, rfl, rfl⟩ := hv_slices hT
  obtain ⟨i1, hi', hz0', hz1', hz2'⟩ := info_parts Tryz.infoStep
  obtain ⟨i2, hj', hy0', hy1', hy2'⟩ := info_parts Tryz.infoLeafD
  clear ih hT hpc hpl
  simp only [vv]
  have HKEY := hid (fun s hs => by obtain ⟨i, hi⟩ := List.getElem?_of_mem hs; exact (HPC.out i s hi).2.2.2 : ∀ s ∈ p, s.key.size ≤ maxLen)
  have b0 := bx_new HT.out 26
  have hal := valloc_bel (Below.refl w.heap.size w) (.cells #[.int .i64 T.kd, .int .i64 T.nm, .string T.st, .slice o1 n1 c1, .slice o2 n2 c2] 26)
  have hz := World.size_alloc w (.cells #[.int .i64 T.kd, .int .i64 T.nm, .string T.st, .slice o1 n1 c1, .slice o2 n2 c2] 26)
  have HP1 := hid (HP.out.onto hal)
  go_enter Tryz.func14, Tryz.ntmps14
  go_upto_region 1 with fail
  refine cewp_gen ?_
  intro W1 hW1
  rw [← hW1] at b0 hal hz HP1
  have BX := hid b0
  have HAL := hid hal
  have HVW := hid (HT.out.onto hal)
  obtain ⟨aL, bM, f, g, pp, qq, oL, oM, cL, cM, ex, ey, hL63, hM63, hoL, hoM, hK, -, hLc, hMc, cLn, cKn, cMn, rL, rM, -, -⟩ := HVW.out.parts
  injection ex with ex1 ex2 ex3
  injection ey with ey1 ey2 ey3
  subst ex1 ex2 ex3 ey1 ey2 ey3
  have hk0 := BX.out.cells.1
  have hk1 := BX.out.cells.2.1
  have hk2 := BX.out.cells.2.2.1
  have hk3 := BX.out.cells.2.2.2.1
  have hk4 := BX.out.cells.2.2.2.2
  obtain ⟨hb1, hb2⟩ := len_sz T
  by_cases hpos : 0 < T.ls.length + T.vs.length
  case neg =>
    have e1 : T.ls.length = 0 := by omega
    have e2 : T.vs.length = 0 := by omega
    have l1 : T.ls = [] := List.eq_nil_of_length_eq_zero e1
    have l2 : T.vs = [] := List.eq_nil_of_length_eq_zero e2
    rw [e1] at hk3
    rw [e2] at hk4
    have HLF := hid (show lfT T p = [(p, T)] by rw [lfT_at, l1, l2]; simp)
    have HBR : Hid (∀ X : World, HV X T (.slice o1 0 c1) (.slice o2 0 c2)) := hid (fun X => by
      have := hv_bare (w' := X) HVW.out l1 l2
      rwa [e1, e2] at this)
    have HL12 := hid (And.intro l1 l2)
    have hle : w.heap.size ≤ W1.heap.size := by omega
    clear b0 hal hW1 cLn cKn cMn rL rM HPC hp3 HVW HIH hb1 hb2 hoL hoM hLc hMc hL63 hM63 e1 e2 l1 l2 hpos hK BX hz
    go_wp2_with fail
    refine wp_region_h (S := fun X => Below W1.heap.size W1 X) 7 (by kernel_rfl) (by kernel_rfl) ?_
    have hS0 : Below W1.heap.size W1 W1.drew := (Below.refl _ _).drew
    refine take_h (i := 1) (v := ?_) rfl (by kernel_rfl) (by kernel_rfl) (by kernel_rfl) (fun _ _ _ h => h) (by rfl) ?_ hS0 ?_
    rotate_left
    · (intro X hX; go_simp; try with_reducible rfl)
    simp only [Act.put, List.setIfInBounds_toArray, List.set_cons_zero, List.set_cons_succ]
    refine take_h (i := 3) (v := ?_) rfl (by kernel_rfl) (by kernel_rfl) (by kernel_rfl) (fun _ _ _ h => h) (by rfl) ?_ hS0 ?_
    rotate_left
    · (intro X hX; have y0 := keepCell hX hk0; have y1 := keepCell hX hk1; have y2 := keepCell hX hk2; have y3 := keepCell hX hk3; have y4 := keepCell hX hk4; go_simp; try with_reducible rfl)
    simp only [Act.put, List.setIfInBounds_toArray, List.set_cons_zero, List.set_cons_succ]
    refine step_h (i := 0) rfl (by kernel_rfl) ?_
    intro KK hKK
    go_simp
    have hX : Below W1.heap.size W1 (W1.alloc (.cells #[] 75)).drew := (valloc_bel (Below.refl _ _) _).drew
    refine hKK.out _ _ hX (fun _ => ?_)
    clear hKK KK
    obtain ⟨u7, Y8, hr8, h27, hbl8, hfar8, hsz8⟩ := p5_copy W1.heap.size (W1.alloc (.cells #[] 75)).drew W1.heap.size p op cp 38 (World.ownsRow.drew (by have := World.ownsRow_lit (base := W1.heap.size) (e := 75) (size := 3) W1 #[] 0 (Nat.le_refl _) (by decide) rfl; simpa using this : (W1.alloc (.cells #[] 75)).ownsRow W1.heap.size 75 3 (.slice (some ⟨W1.heap.size, 0, none⟩) 0 0) 0 [])) (HP1.out.onto hX) (by have := hX.size; omega) (by omega)
    have hY : Below W1.heap.size W1 Y8 := hbl8 W1 rfl hX
    obtain ⟨ou7, cu7, rfl⟩ := own_sl5 h27
    refine step_h (i := 2) rfl (by kernel_rfl) ?_
    intro KK hKK
    refine step_app (by rfl) _ _ _ (by rfl) _ _ (by rfl) (by rfl) _ Y8 hr8 ?_
    refine hKK.out _ _ hY (fun hS2 => ?_)
    clear hKK KK hr8
    simp only [Act.put, List.setIfInBounds_toArray, List.set_cons_zero, List.set_cons_succ]
    refine take_h (i := 4) (v := ?_) rfl (by kernel_rfl) (by kernel_rfl) (by kernel_rfl) (fun _ _ _ h => h) (by rfl) ?_ hS2 ?_
    rotate_left
    · (intro X hX; go_simp; try with_reducible rfl)
    simp only [Act.put, List.setIfInBounds_toArray, List.set_cons_zero, List.set_cons_succ]
    refine step_h (i := 5) rfl (by kernel_rfl) ?_
    intro KK hKK
    go_simp
    have hrow : (Y8.alloc (.cells #[.slice ou7 p.length cu7, .int .i64 T.kd, .int .i64 T.nm, .string T.st, .slice o1 0 c1, .slice o2 0 c2] 40)).ownsRow W1.heap.size 40 6 (.slice (some ⟨Y8.heap.size, 0, none⟩) 1 1) 1 [.slice ou7 p.length cu7, .int .i64 T.kd, .int .i64 T.nm, .string T.st, .slice o1 0 c1, .slice o2 0 c2] := by
      have := World.ownsRow_lit (base := W1.heap.size) (e := 40) (size := 6) Y8 #[.slice ou7 p.length cu7, .int .i64 T.kd, .int .i64 T.nm, .string T.st, .slice o1 0 c1, .slice o2 0 c2] 1 hY.size (by decide) rfl
      simpa using this
    have hpth := h27.alloc (.cells #[.slice ou7 p.length cu7, .int .i64 T.kd, .int .i64 T.nm, .string T.st, .slice o1 0 c1, .slice o2 0 c2] 40)
    have hYY := vonto hY (valloc_bel (Below.refl Y8.heap.size Y8) (.cells #[.slice ou7 p.length cu7, .int .i64 T.kd, .int .i64 T.nm, .string T.st, .slice o1 0 c1, .slice o2 0 c2] 40))
    have GTF : Hid (Gol W1 (Y8.alloc (.cells #[.slice ou7 p.length cu7, .int .i64 T.kd, .int .i64 T.nm, .string T.st, .slice o1 0 c1, .slice o2 0 c2] 40)) (.slice (some ⟨Y8.heap.size, 0, none⟩) 1 1) [⟨p, T, .slice ou7 p.length cu7, .slice o1 0 c1, .slice o2 0 c2⟩]) := hid
      ⟨by simpa [lcE] using hrow, fun e he => by rw [List.mem_singleton.1 he]; exact hpth, fun e he => by rw [List.mem_singleton.1 he]; exact ⟨HL12.out, HBR.out⟩, hYY⟩
    refine hKK.out _ _ hYY (fun hS3 => ?_)
    clear hKK KK hrow hpth
    try simp only [Act.put, List.setIfInBounds_toArray, List.set_cons_zero, List.set_cons_succ]
    refine take_h (i := 6) (v := ?_) rfl (by kernel_rfl) (by kernel_rfl) (by kernel_rfl) (fun _ _ _ h => h) (by rfl) ?_ hS3 ?_
    rotate_left
    · (intro X hX; go_simp; try with_reducible rfl)
    simp only [Act.put, List.setIfInBounds_toArray, List.set_cons_zero, List.set_cons_succ]
    refine wpAnyH_done (by kernel_rfl) ?_ _
    go_wp2_with fail
    go_ret
    exact ⟨_, _, rfl, ⟨GTF.out.row.mono hle, fun e he => (GTF.out.els e he).mono hle, GTF.out.bs, vonto HAL.out GTF.out.bel⟩, HLF.out.symm⟩
  have hsum : ((T.ls.length : Int) + (T.vs.length : Int) == 0) = false := by
    rw [beq_eq_false_iff_ne]; omega
  have GT0 : Hid (Gol W1 W1 (.slice none 0 0) []) := hid ⟨World.ownsRow_nil _ _ _ _, fun e he => (by cases he), fun e he => (by cases he), Below.refl _ _⟩
  have CLN := hid cLn
  have CKN := hid cKn
  have CMN := hid cMn
  have RL := hid rL
  have RM := hid rM
  have HPS := hid hpos
  clear b0 hal hW1 cLn cKn cMn rL rM HPC hp3 hk0 hk1 hk2 hpos
  go_wp2_with fail
  go_loopw [5, 6] (fun l i wr => ∃ (j : Nat) (E : List LE), i = .int .i64 j ∧ j ≤ T.ls.length ∧ Hid (Gol W1 wr l E) ∧ Hid (E.map LE.pt = lfL (T.ls.take j) 0 p)) (fun _ i _ => T.ls.length - (intOf i).toNat)
  case atStart => exact ⟨0, [], rfl, Nat.zero_le _, GT0, hid (by simp [lfL])⟩
  case round =>
    clear GT0
    obtain ⟨j, E, rfl, hj, GT, HM⟩ := hrel
    obtain ⟨ol, cl, rfl⟩ := own_sl5 GT.out.row
    have hEL : E.length ≤ 100000 := by
      have := congrArg List.length HM.out
      rw [List.length_map] at this
      have h1 := lfL_len (T.ls.take j) 0 p
      have h2 := szL_take_le T.ls j
      have h3 := sz_both T
      omega
    have k3 := keepCell GT.out.bel hk3
    by_cases hlt : j < T.ls.length
    · obtain ⟨t, ht⟩ : ∃ t, T.ls[j]? = some t := ⟨T.ls[j], List.getElem?_eq_getElem hlt⟩
      obtain rfl := hoL (by omega)
      obtain ⟨e0', e1', e2', e3', e4'⟩ := CLN.out j t ht
      have HVT := hid (RL.out j t ht)
      obtain ⟨q1, m1, d1, q2, m2, d2, hf1, hg1⟩ := hv_slices HVT.out
      rw [hf1] at e3' HVT
      rw [hg1] at e4' HVT
      have hpt := plain_ls HPL.out ht
      have hst := szT_ls T j t ht
      have IPW := hid (HP1.out.onto GT.out.bel)
      clear k3
      have e0 := e0'; have e1 := e1'; have e2 := e2'; have e3 := e3'; have e4 := e4'; have k3 := hk3
      have z3 := keepCell GT.out.bel hk3
      go_wp2_with fail
      refine wp_region_h (S := fun X => Below W1.heap.size W1 X) 16 (by kernel_rfl) (by kernel_rfl) ?_
      have hS0 : Below W1.heap.size W1 wr.drew := GT.out.bel.drew
      refine take_h (i := 0) (v := ?_) rfl (by kernel_rfl) (by kernel_rfl) (by kernel_rfl) (fun _ _ _ h => h) (by rfl) ?_ hS0 ?_
      rotate_left
      · (intro X hX; have y0 := keepCell hX k3; have y1 := keepCell hX e0; have y2 := keepCell hX e1; have y3 := keepCell hX e2; have y4 := keepCell hX e3; have y5 := keepCell hX e4; go_simp; try with_reducible rfl)
      simp only [Act.put, List.setIfInBounds_toArray, List.set_cons_zero, List.set_cons_succ]
      refine take_h (i := 1) (v := ?_) rfl (by kernel_rfl) (by kernel_rfl) (by kernel_rfl) (fun _ _ _ h => h) (by rfl) ?_ hS0 ?_
      rotate_left
      · (intro X hX; have y0 := keepCell hX k3; have y1 := keepCell hX e0; have y2 := keepCell hX e1; have y3 := keepCell hX e2; have y4 := keepCell hX e3; have y5 := keepCell hX e4; go_simp; try with_reducible rfl)
      simp only [Act.put, List.setIfInBounds_toArray, List.set_cons_zero, List.set_cons_succ]
      refine take_h (i := 2) (v := ?_) rfl (by kernel_rfl) (by kernel_rfl) (by kernel_rfl) (fun _ _ _ h => h) (by rfl) ?_ hS0 ?_
      rotate_left
      · (intro X hX; have y0 := keepCell hX k3; have y1 := keepCell hX e0; have y2 := keepCell hX e1; have y3 := keepCell hX e2; have y4 := keepCell hX e3; have y5 := keepCell hX e4; go_simp; try with_reducible rfl)
      simp only [Act.put, List.setIfInBounds_toArray, List.set_cons_zero, List.set_cons_succ]
      refine take_h (i := 3) (v := ?_) rfl (by kernel_rfl) (by kernel_rfl) (by kernel_rfl) (fun _ _ _ h => h) (by rfl) ?_ hS0 ?_
      rotate_left
      · (intro X hX; have y0 := keepCell hX k3; have y1 := keepCell hX e0; have y2 := keepCell hX e1; have y3 := keepCell hX e2; have y4 := keepCell hX e3; have y5 := keepCell hX e4; go_simp; try with_reducible rfl)
      simp only [Act.put, List.setIfInBounds_toArray, List.set_cons_zero, List.set_cons_succ]
      refine take_h (i := 4) (v := ?_) rfl (by kernel_rfl) (by kernel_rfl) (by kernel_rfl) (fun _ _ _ h => h) (by rfl) ?_ hS0 ?_
      rotate_left
      · (intro X hX; have y0 := keepCell hX k3; have y1 := keepCell hX e0; have y2 := keepCell hX e1; have y3 := keepCell hX e2; have y4 := keepCell hX e3; have y5 := keepCell hX e4; go_simp; try with_reducible rfl)
      simp only [Act.put, List.setIfInBounds_toArray, List.set_cons_zero, List.set_cons_succ]
      refine take_h (i := 5) (v := ?_) rfl (by kernel_rfl) (by kernel_rfl) (by kernel_rfl) (fun _ _ _ h => h) (by rfl) ?_ hS0 ?_
      rotate_left
      · (intro X hX; have y0 := keepCell hX k3; have y1 := keepCell hX e0; have y2 := keepCell hX e1; have y3 := keepCell hX e2; have y4 := keepCell hX e3; have y5 := keepCell hX e4; go_simp; try with_reducible rfl)
      simp only [Act.put, List.setIfInBounds_toArray, List.set_cons_zero, List.set_cons_succ]
      refine take_h (i := 7) (v := ?_) rfl (by kernel_rfl) (by kernel_rfl) (by kernel_rfl) (fun _ _ _ h => h) (by rfl) ?_ hS0 ?_
      rotate_left
      · (intro X hX; have y0 := keepCell hX k3; have y1 := keepCell hX e0; have y2 := keepCell hX e1; have y3 := keepCell hX e2; have y4 := keepCell hX e3; have y5 := keepCell hX e4; go_simp; try with_reducible rfl)
      simp only [Act.put, List.setIfInBounds_toArray, List.set_cons_zero, List.set_cons_succ]
      refine take_h (i := 9) (v := ?_) rfl (by kernel_rfl) (by kernel_rfl) (by kernel_rfl) (fun _ _ _ h => h) (by rfl) ?_ hS0 ?_
      rotate_left
      · (intro X hX; have y0 := keepCell hX k3; have y1 := keepCell hX e0; have y2 := keepCell hX e1; have y3 := keepCell hX e2; have y4 := keepCell hX e3; have y5 := keepCell hX e4; go_simp; try with_reducible rfl)
      simp only [Act.put, List.setIfInBounds_toArray, List.set_cons_zero, List.set_cons_succ]
      refine take_h (i := 10) (v := ?_) rfl (by kernel_rfl) (by kernel_rfl) (by kernel_rfl) (fun _ _ _ h => h) (by rfl) ?_ hS0 ?_
      rotate_left
      · (intro X hX; have y0 := keepCell hX k3; have y1 := keepCell hX e0; have y2 := keepCell hX e1; have y3 := keepCell hX e2; have y4 := keepCell hX e3; have y5 := keepCell hX e4; go_simp; try with_reducible rfl)
      simp only [Act.put, List.setIfInBounds_toArray, List.set_cons_zero, List.set_cons_succ]
      refine wpAnyH_ready (rs := [6, 11]) (by kernel_rfl) (by simp) ?_
      refine AllReadyH.cons rfl (fun KK hKK => ?_) (AllReadyH.cons rfl (fun KK hKK => ?_) AllReadyH.nil)
      · go_simp
        have hX : Below wr.heap.size wr (wr.alloc (.cells #[] 75)).drew := (valloc_bel (Below.refl _ _) _).drew
        refine hKK.out _ _ (vonto GT.out.bel hX) (fun _ => ?_)
        clear hKK KK
        refine wpAnyH_ready (rs := [8, 11]) (by kernel_rfl) (by simp) ?_
        refine AllReadyH.cons rfl (fun KK hKK => ?_) (AllReadyH.cons rfl (fun KK hKK => ?_) AllReadyH.nil)
        · obtain ⟨u7, Y8, hr8, h27, hbl8, hfar8, hsz8⟩ := p5_copy wr.heap.size (wr.alloc (.cells #[] 75)).drew wr.heap.size p op cp 38 (World.ownsRow.drew (by have := World.ownsRow_lit (base := wr.heap.size) (e := 75) (size := 3) wr #[] 0 (Nat.le_refl _) (by decide) rfl; simpa using this : (wr.alloc (.cells #[] 75)).ownsRow wr.heap.size 75 3 (.slice (some ⟨wr.heap.size, 0, none⟩) 0 0) 0 [])) (IPW.out.onto hX) (by have := hX.size; omega) (by omega)
          have hY : Below wr.heap.size wr Y8 := hbl8 wr rfl hX
          obtain ⟨ou7, cu7, rfl⟩ := own_sl5 h27
          refine step_app (by rfl) _ _ _ (by rfl) _ _ (by rfl) (by rfl) _ Y8 hr8 ?_
          refine hKK.out _ _ (vonto GT.out.bel hY) (fun _ => ?_)
          clear hKK KK hr8
          simp only [Act.put, List.setIfInBounds_toArray]
          have hXX := vonto hY (valloc_bel (Below.refl Y8.heap.size Y8) (.cells #[.string ⟨#[]⟩, .int .i64 (j : Int), .bool true] 75))
          refine step_h (i := 11) rfl (by kernel_rfl) ?_
          intro KK hKK
          go_simp
          refine hKK.out _ _ (vonto GT.out.bel hXX) (fun _ => ?_)
          clear hKK KK
          have n30 := new_cells Y8 (sc (plS j)) 75
          have g27a := h27.alloc (.cells #[.string ⟨#[]⟩, .int .i64 (j : Int), .bool true] 75)
          refine step_h (i := 12) rfl (by kernel_rfl) ?_
          intro KK hKK
          refine step_append_lies _ (by rfl) _ _ _ (by rfl) wr.heap.size 75 i1 (.agg #[.string ⟨#[]⟩, .int .i64 0, .bool false]) 3 32 Tryz.underlying38 hi' hz0' hz1' hz2' rfl (by decide) _ p.length _ (by rfl) g27a ⟨Y8.heap.size, 0, none⟩ 1 1 (sc (plS j)) (by rfl) rfl n30 (sc_one _) (by decide) (by unfold maxLen; omega) (by omega) (by have := (hXX).size; omega) (Y8.alloc (.cells #[.string ⟨#[]⟩, .int .i64 (j : Int), .bool true] 75)).heap.size rfl ?_
          intro g9 cap9 w9 hown9 hgr9 hat9 hlt9
          have hb9 : Below wr.heap.size wr w9 := (hXX).grown hgr9 (by have := (hXX).size; omega) (fun q hq => (World.ownsRow.lt g27a q hq).1)
          have own9 : w9.ownsRow wr.heap.size 75 3 (.slice (some ⟨g9, 0, none⟩) (p.length + 1) cap9) (p ++ [(plS j)]).length ((p ++ [(plS j)]).flatMap sc) := by rw [List.flatMap_append, List.length_append]; simpa using hown9
          have IN9 := hid (own_inp own9 (fun s hs => (List.mem_append.1 hs).elim (fun h => HKEY.out s h) (fun h => by rw [List.mem_singleton.1 h]; exact Nat.zero_le _)))
          have HB9 := hid hb9
          refine hKK.out _ _ (vonto GT.out.bel hb9) (fun _ => ?_)
          clear hKK KK hown9 hgr9 hat9 own9
          refine step_h (i := 13) rfl (by kernel_rfl) ?_
          intro KK hKK
          go_simp
          have CA := hid (HIH.out t _ _ (p ++ [(plS j)]) _ w9 (by omega) hpt (HVT.out.onto (vonto GT.out.bel HB9.out)) IN9.out (by rw [List.length_append, List.length_singleton]; omega))
          simp only [vv] at CA
          go_wp2_with (go_at_call 14; go_must (refine CA.out.mono ?_; rintro e wz ⟨ur, E', rfl, got', hmap'⟩))
          have hbz := vonto HB9.out got'.bel
          have hE0 : 0 < E'.length := by have := congrArg List.length hmap'; rw [List.length_map] at this; rw [this]; exact lfT_ne _ _
          have hEl : E'.length ≤ 100000 := by have := congrArg List.length hmap'; rw [List.length_map] at this; rw [this]; have := lfT_len t (p ++ [(plS j)]); omega
          obtain ⟨gr, cr, rfl, -, -, -⟩ := own_at6 got'.row hE0
          refine hKK.out _ _ (vonto GT.out.bel hbz) (fun _ => ?_)
          clear hKK KK
          have gz := GT.out.onto hbz
          refine step_h (i := 14) rfl (by kernel_rfl) ?_
          intro KK hKK
          refine step_append_lies _ (by rfl) _ _ _ (by rfl) W1.heap.size 40 i2 (.agg #[.slice none 0 0, .int .i64 0, .int .i64 0, .string ⟨#[]⟩, .slice none 0 0, .slice none 0 0]) 6 104 Tryz.underlying32 hj' hy0' hy1' hy2' rfl (by decide) _ E.length _ (by rfl) gz.row ⟨gr, 0, none⟩ E'.length cr (E'.flatMap lcE) (by rfl) (flc_len E') (got'.row.cells rfl) (flc_ones got'.els got'.bs) hE0 (by unfold maxLen; omega) (by omega) (by have := gz.bel.size; omega) wz.heap.size rfl ?_
          intro ga capa wa howna hgra hata hlta
          have gta := gz.more (fun e he => (got'.els e he).mono (by have := (vonto GT.out.bel HB9.out).size; omega)) got'.bs howna hgra
          have GTA := hid gta
          have HMA : Hid ((E ++ E').map LE.pt = lfL (T.ls.take (j + 1)) 0 p) := hid (by rw [List.map_append, HM.out, hmap']; rw [List.take_add_one, ht]; simp only [Option.toList_some]; rw [lfL_snoc, List.length_take, Nat.min_eq_left (by omega), Nat.zero_add]; rfl)
          refine hKK.out _ _ gta.bel (fun hSa => ?_)
          clear hKK KK howna hgra hata hlta gta gz
          simp only [Act.put, List.setIfInBounds_toArray, List.set_cons_zero, List.set_cons_succ]
          refine take_h (i := 15) (v := ?_) rfl (by kernel_rfl) (by kernel_rfl) (by kernel_rfl) (fun _ _ _ h => h) (by rfl) ?_ hSa ?_
          rotate_left
          · (intro X hX; go_simp; try with_reducible rfl)
          simp only [Act.put, List.setIfInBounds_toArray, List.set_cons_zero, List.set_cons_succ]
          refine wpAnyH_done (by kernel_rfl) ?_ _
          go_wp2_with fail
          go_roundw
          case rel => exact ⟨j + 1, E ++ E', val_int (by omega), hlt, GTA, HMA⟩
          case measure => simp [intOf]; omega
        · go_simp
          have hX2 : Below wr.heap.size wr ((wr.alloc (.cells #[] 75)).alloc (.cells #[.string ⟨#[]⟩, .int .i64 (j : Int), .bool true] 75)).drew := (valloc_bel (valloc_bel (Below.refl _ _) _) _).drew
          refine hKK.out _ _ (vonto GT.out.bel hX2) (fun _ => ?_)
          clear hKK KK hX
          have n31 := new_cells (wr.alloc (.cells #[] 75)) (sc (plS j)) 75
          rw [World.size_alloc] at n31
          obtain ⟨u7, Y8, hr8, h27, hbl8, hfar8, hsz8⟩ := p5_copy wr.heap.size ((wr.alloc (.cells #[] 75)).alloc (.cells #[.string ⟨#[]⟩, .int .i64 (j : Int), .bool true] 75)).drew wr.heap.size p op cp 38 (World.ownsRow.drew (World.ownsRow.alloc (by have := World.ownsRow_lit (base := wr.heap.size) (e := 75) (size := 3) wr #[] 0 (Nat.le_refl _) (by decide) rfl; simpa using this : (wr.alloc (.cells #[] 75)).ownsRow wr.heap.size 75 3 (.slice (some ⟨wr.heap.size, 0, none⟩) 0 0) 0 []) _)) (IPW.out.onto hX2) (by have := hX2.size; omega) (by omega)
          have hY : Below wr.heap.size wr Y8 := hbl8 wr rfl hX2
          obtain ⟨ou7, cu7, rfl⟩ := own_sl5 h27
          refine step_h (i := 8) rfl (by kernel_rfl) ?_
          intro KK hKK
          refine step_app (by rfl) _ _ _ (by rfl) _ _ (by rfl) (by rfl) _ Y8 hr8 ?_
          refine hKK.out _ _ (vonto GT.out.bel hY) (fun _ => ?_)
          clear hKK KK hr8
          simp only [Act.put, List.setIfInBounds_toArray, List.set_cons_zero, List.set_cons_succ]
          have n30 : ∀ (z : Nat) (u : Value), (sc (plS j))[z]? = some u → Y8.cell? ((⟨wr.heap.size + 1, 0, none⟩ : Addr).add z) = some u := fun z u h => by rw [hfar8 _ (by rw [addr_block]; simp) (by rw [addr_block]; show wr.heap.size + 1 ≠ wr.heap.size; omega)]; exact n31 z u h
          refine step_h (i := 12) rfl (by kernel_rfl) ?_
          intro KK hKK
          refine step_append_lies _ (by rfl) _ _ _ (by rfl) wr.heap.size 75 i1 (.agg #[.string ⟨#[]⟩, .int .i64 0, .bool false]) 3 32 Tryz.underlying38 hi' hz0' hz1' hz2' rfl (by decide) _ p.length _ (by rfl) h27 ⟨wr.heap.size + 1, 0, none⟩ 1 1 (sc (plS j)) (by rfl) rfl n30 (sc_one _) (by decide) (by unfold maxLen; omega) (by omega) (by have := (hY).size; omega) (Y8).heap.size rfl ?_
          intro g9 cap9 w9 hown9 hgr9 hat9 hlt9
          have hb9 : Below wr.heap.size wr w9 := (hY).grown hgr9 (by have := (hY).size; omega) (fun q hq => (World.ownsRow.lt h27 q hq).1)
          have own9 : w9.ownsRow wr.heap.size 75 3 (.slice (some ⟨g9, 0, none⟩) (p.length + 1) cap9) (p ++ [(plS j)]).length ((p ++ [(plS j)]).flatMap sc) := by rw [List.flatMap_append, List.length_append]; simpa using hown9
          have IN9 := hid (own_inp own9 (fun s hs => (List.mem_append.1 hs).elim (fun h => HKEY.out s h) (fun h => by rw [List.mem_singleton.1 h]; exact Nat.zero_le _)))
          have HB9 := hid hb9
          refine hKK.out _ _ (vonto GT.out.bel hb9) (fun _ => ?_)
          clear hKK KK hown9 hgr9 hat9 own9
          refine step_h (i := 13) rfl (by kernel_rfl) ?_
          intro KK hKK
          go_simp
          have CA := hid (HIH.out t _ _ (p ++ [(plS j)]) _ w9 (by omega) hpt (HVT.out.onto (vonto GT.out.bel HB9.out)) IN9.out (by rw [List.length_append, List.length_singleton]; omega))
          simp only [vv] at CA
          go_wp2_with (go_at_call 14; go_must (refine CA.out.mono ?_; rintro e wz ⟨ur, E', rfl, got', hmap'⟩))
          have hbz := vonto HB9.out got'.bel
          have hE0 : 0 < E'.length := by have := congrArg List.length hmap'; rw [List.length_map] at this; rw [this]; exact lfT_ne _ _
          have hEl : E'.length ≤ 100000 := by have := congrArg List.length hmap'; rw [List.length_map] at this; rw [this]; have := lfT_len t (p ++ [(plS j)]); omega
          obtain ⟨gr, cr, rfl, -, -, -⟩ := own_at6 got'.row hE0
          refine hKK.out _ _ (vonto GT.out.bel hbz) (fun _ => ?_)
          clear hKK KK
          have gz := GT.out.onto hbz
          refine step_h (i := 14) rfl (by kernel_rfl) ?_
          intro KK hKK
          refine step_append_lies _ (by rfl) _ _ _ (by rfl) W1.heap.size 40 i2 (.agg #[.slice none 0 0, .int .i64 0, .int .i64 0, .string ⟨#[]⟩, .slice none 0 0, .slice none 0 0]) 6 104 Tryz.underlying32 hj' hy0' hy1' hy2' rfl (by decide) _ E.length _ (by rfl) gz.row ⟨gr, 0, none⟩ E'.length cr (E'.flatMap lcE) (by rfl) (flc_len E') (got'.row.cells rfl) (flc_ones got'.els got'.bs) hE0 (by unfold maxLen; omega) (by omega) (by have := gz.bel.size; omega) wz.heap.size rfl ?_
          intro ga capa wa howna hgra hata hlta
          have gta := gz.more (fun e he => (got'.els e he).mono (by have := (vonto GT.out.bel HB9.out).size; omega)) got'.bs howna hgra
          have GTA := hid gta
          have HMA : Hid ((E ++ E').map LE.pt = lfL (T.ls.take (j + 1)) 0 p) := hid (by rw [List.map_append, HM.out, hmap']; rw [List.take_add_one, ht]; simp only [Option.toList_some]; rw [lfL_snoc, List.length_take, Nat.min_eq_left (by omega), Nat.zero_add]; rfl)
          refine hKK.out _ _ gta.bel (fun hSa => ?_)
          clear hKK KK howna hgra hata hlta gta gz
          simp only [Act.put, List.setIfInBounds_toArray, List.set_cons_zero, List.set_cons_succ]
          refine take_h (i := 15) (v := ?_) rfl (by kernel_rfl) (by kernel_rfl) (by kernel_rfl) (fun _ _ _ h => h) (by rfl) ?_ hSa ?_
          rotate_left
          · (intro X hX; go_simp; try with_reducible rfl)
          simp only [Act.put, List.setIfInBounds_toArray, List.set_cons_zero, List.set_cons_succ]
          refine wpAnyH_done (by kernel_rfl) ?_ _
          go_wp2_with fail
          go_roundw
          case rel => exact ⟨j + 1, E ++ E', val_int (by omega), hlt, GTA, HMA⟩
          case measure => simp [intOf]; omega
      · go_simp
        have hX1 : Below wr.heap.size wr (wr.alloc (.cells #[.string ⟨#[]⟩, .int .i64 (j : Int), .bool true] 75)).drew := (valloc_bel (Below.refl _ _) _).drew
        refine hKK.out _ _ (vonto GT.out.bel hX1) (fun _ => ?_)
        clear hKK KK
        have n31 := new_cells wr (sc (plS j)) 75
        have hX2 : Below wr.heap.size wr ((wr.alloc (.cells #[.string ⟨#[]⟩, .int .i64 (j : Int), .bool true] 75)).alloc (.cells #[] 75)).drew := (valloc_bel (valloc_bel (Below.refl _ _) _) _).drew
        refine step_h (i := 6) rfl (by kernel_rfl) ?_
        intro KK hKK
        go_simp
        refine hKK.out _ _ (vonto GT.out.bel hX2) (fun _ => ?_)
        clear hKK KK
        obtain ⟨u7, Y8, hr8, h27, hbl8, hfar8, hsz8⟩ := p5_copy wr.heap.size ((wr.alloc (.cells #[.string ⟨#[]⟩, .int .i64 (j : Int), .bool true] 75)).alloc (.cells #[] 75)).drew (wr.heap.size + 1) p op cp 38 (World.ownsRow.drew (by have := World.ownsRow_lit (base := wr.heap.size) (e := 75) (size := 3) (wr.alloc (.cells #[.string ⟨#[]⟩, .int .i64 (j : Int), .bool true] 75)) #[] 0 (by simp) (by decide) rfl; rw [World.size_alloc] at this; simpa using this : ((wr.alloc (.cells #[.string ⟨#[]⟩, .int .i64 (j : Int), .bool true] 75)).alloc (.cells #[] 75)).ownsRow wr.heap.size 75 3 (.slice (some ⟨wr.heap.size + 1, 0, none⟩) 0 0) 0 [])) (IPW.out.onto hX2) (by have := hX2.size; omega) (by omega)
        have hY : Below wr.heap.size wr Y8 := hbl8 wr rfl hX2
        obtain ⟨ou7, cu7, rfl⟩ := own_sl5 h27
        refine step_h (i := 8) rfl (by kernel_rfl) ?_
        intro KK hKK
        refine step_app (by rfl) _ _ _ (by rfl) _ _ (by rfl) (by rfl) _ Y8 hr8 ?_
        refine hKK.out _ _ (vonto GT.out.bel hY) (fun _ => ?_)
        clear hKK KK hr8
        simp only [Act.put, List.setIfInBounds_toArray, List.set_cons_zero, List.set_cons_succ]
        have n30 : ∀ (z : Nat) (u : Value), (sc (plS j))[z]? = some u → Y8.cell? ((⟨wr.heap.size, 0, none⟩ : Addr).add z) = some u := fun z u h => by rw [hfar8 _ (by rw [addr_block]; simp; omega) (by rw [addr_block]; show wr.heap.size ≠ wr.heap.size + 1; omega)]; exact keepCell (valloc_bel (Below.refl _ _) _).drew (n31 z u h)
        refine step_h (i := 12) rfl (by kernel_rfl) ?_
        intro KK hKK
        refine step_append_lies _ (by rfl) _ _ _ (by rfl) wr.heap.size 75 i1 (.agg #[.string ⟨#[]⟩, .int .i64 0, .bool false]) 3 32 Tryz.underlying38 hi' hz0' hz1' hz2' rfl (by decide) _ p.length _ (by rfl) h27 ⟨wr.heap.size, 0, none⟩ 1 1 (sc (plS j)) (by rfl) rfl n30 (sc_one _) (by decide) (by unfold maxLen; omega) (by omega) (by have := (hY).size; omega) (Y8).heap.size rfl ?_
        intro g9 cap9 w9 hown9 hgr9 hat9 hlt9
        have hb9 : Below wr.heap.size wr w9 := (hY).grown hgr9 (by have := (hY).size; omega) (fun q hq => (World.ownsRow.lt h27 q hq).1)
        have own9 : w9.ownsRow wr.heap.size 75 3 (.slice (some ⟨g9, 0, none⟩) (p.length + 1) cap9) (p ++ [(plS j)]).length ((p ++ [(plS j)]).flatMap sc) := by rw [List.flatMap_append, List.length_append]; simpa using hown9
        have IN9 := hid (own_inp own9 (fun s hs => (List.mem_append.1 hs).elim (fun h => HKEY.out s h) (fun h => by rw [List.mem_singleton.1 h]; exact Nat.zero_le _)))
        have HB9 := hid hb9
        refine hKK.out _ _ (vonto GT.out.bel hb9) (fun _ => ?_)
        clear hKK KK hown9 hgr9 hat9 own9
        refine step_h (i := 13) rfl (by kernel_rfl) ?_
        intro KK hKK
        go_simp
        have CA := hid (HIH.out t _ _ (p ++ [(plS j)]) _ w9 (by omega) hpt (HVT.out.onto (vonto GT.out.bel HB9.out)) IN9.out (by rw [List.length_append, List.length_singleton]; omega))
        simp only [vv] at CA
        go_wp2_with (go_at_call 14; go_must (refine CA.out.mono ?_; rintro e wz ⟨ur, E', rfl, got', hmap'⟩))
        have hbz := vonto HB9.out got'.bel
        have hE0 : 0 < E'.length := by have := congrArg List.length hmap'; rw [List.length_map] at this; rw [this]; exact lfT_ne _ _
        have hEl : E'.length ≤ 100000 := by have := congrArg List.length hmap'; rw [List.length_map] at this; rw [this]; have := lfT_len t (p ++ [(plS j)]); omega
        obtain ⟨gr, cr, rfl, -, -, -⟩ := own_at6 got'.row hE0
        refine hKK.out _ _ (vonto GT.out.bel hbz) (fun _ => ?_)
        clear hKK KK
        have gz := GT.out.onto hbz
        refine step_h (i := 14) rfl (by kernel_rfl) ?_
        intro KK hKK
        refine step_append_lies _ (by rfl) _ _ _ (by rfl) W1.heap.size 40 i2 (.agg #[.slice none 0 0, .int .i64 0, .int .i64 0, .string ⟨#[]⟩, .slice none 0 0, .slice none 0 0]) 6 104 Tryz.underlying32 hj' hy0' hy1' hy2' rfl (by decide) _ E.length _ (by rfl) gz.row ⟨gr, 0, none⟩ E'.length cr (E'.flatMap lcE) (by rfl) (flc_len E') (got'.row.cells rfl) (flc_ones got'.els got'.bs) hE0 (by unfold maxLen; omega) (by omega) (by have := gz.bel.size; omega) wz.heap.size rfl ?_
        intro ga capa wa howna hgra hata hlta
        have gta := gz.more (fun e he => (got'.els e he).mono (by have := (vonto GT.out.bel HB9.out).size; omega)) got'.bs howna hgra
        have GTA := hid gta
        have HMA : Hid ((E ++ E').map LE.pt = lfL (T.ls.take (j + 1)) 0 p) := hid (by rw [List.map_append, HM.out, hmap']; rw [List.take_add_one, ht]; simp only [Option.toList_some]; rw [lfL_snoc, List.length_take, Nat.min_eq_left (by omega), Nat.zero_add]; rfl)
        refine hKK.out _ _ gta.bel (fun hSa => ?_)
        clear hKK KK howna hgra hata hlta gta gz
        simp only [Act.put, List.setIfInBounds_toArray, List.set_cons_zero, List.set_cons_succ]
        refine take_h (i := 15) (v := ?_) rfl (by kernel_rfl) (by kernel_rfl) (by kernel_rfl) (fun _ _ _ h => h) (by rfl) ?_ hSa ?_
        rotate_left
        · (intro X hX; go_simp; try with_reducible rfl)
        simp only [Act.put, List.setIfInBounds_toArray, List.set_cons_zero, List.set_cons_succ]
        refine wpAnyH_done (by kernel_rfl) ?_ _
        go_wp2_with fail
        go_roundw
        case rel => exact ⟨j + 1, E ++ E', val_int (by omega), hlt, GTA, HMA⟩
        case measure => simp [intOf]; omega
    · have HM1 := hid (show E.map LE.pt = lfL T.ls 0 p ++ lfM (T.vs.take 0) T.ks p by rw [HM.out, List.take_of_length_le (by omega)]; simp [lfM])
      clear HM hEL
      go_wp2_with fail
      go_loopw [5, 7] (fun l i wr => ∃ (j : Nat) (E : List LE), i = .int .i64 j ∧ j ≤ T.vs.length ∧ Hid (Gol W1 wr l E) ∧ Hid (E.map LE.pt = lfL T.ls 0 p ++ lfM (T.vs.take j) T.ks p)) (fun _ i _ => T.vs.length - (intOf i).toNat)
      case atStart => exact ⟨0, E, rfl, Nat.zero_le _, GT, HM1⟩
      case round =>
        clear GT HM1 k3 hlt
        obtain ⟨j, E, rfl, hj, GT, HM⟩ := hrel
        obtain ⟨ol, cl, rfl⟩ := own_sl5 GT.out.row
        have hEL : E.length ≤ 100000 := by
          have := congrArg List.length HM.out
          rw [List.length_map, List.length_append] at this
          have h0 := lfL_len T.ls 0 p
          have h1 := lfM_len (T.vs.take j) T.ks p
          have h2 := szL_take_le T.vs j
          have h3 := sz_both T
          omega
        have k4 := keepCell GT.out.bel hk4
        by_cases hlt : j < T.vs.length
        · obtain ⟨t, ht⟩ : ∃ t, T.vs[j]? = some t := ⟨T.vs[j], List.getElem?_eq_getElem hlt⟩
          obtain ⟨c, hc⟩ : ∃ c, T.ks[j]? = some c := ⟨T.ks[j]'(by omega), List.getElem?_eq_getElem (by omega)⟩
          obtain rfl := hoM (by omega)
          obtain ⟨ck, hcs⟩ := CKN.out j c hc
          obtain ⟨e0', e1', e2', e3', e4'⟩ := CMN.out j t ht
          have HVT := hid (RM.out j t ht)
          obtain ⟨q1, m1, d1, q2, m2, d2, hf1, hg1⟩ := hv_slices HVT.out
          rw [hf1] at e3' HVT
          rw [hg1] at e4' HVT
          have hpt := plain_vs HPL.out ht
          have hst := szT_vs T j t ht
          have IPW := hid (HP1.out.onto GT.out.bel)
          clear k4
          simp only [nx] at e0' e1' e2' e3' e4'
          have e0 := e0'; have e1 := e1'; have e2 := e2'; have e3 := e3'; have e4 := e4'; have k4 := hk4
          have z4 := keepCell GT.out.bel hk4
          go_wp2_with fail
          refine wp_region_h (S := fun X => Below W1.heap.size W1 X) 22 (by kernel_rfl) (by kernel_rfl) ?_
          have hS0 : Below W1.heap.size W1 wr.drew := GT.out.bel.drew
          refine take_h (i := 0) (v := ?_) rfl (by kernel_rfl) (by kernel_rfl) (by kernel_rfl) (fun _ _ _ h => h) (by rfl) ?_ hS0 ?_
          rotate_left
          · (intro X hX; have y0 := keepCell hX k4; have y1 := keepCell hX ck; have y2 := keepCell hX e0; have y3 := keepCell hX e1; have y4 := keepCell hX e2; have y5 := keepCell hX e3; have y6 := keepCell hX e4; go_simp; try with_reducible rfl)
          simp only [Act.put, List.setIfInBounds_toArray, List.set_cons_zero, List.set_cons_succ]
          refine take_h (i := 1) (v := ?_) rfl (by kernel_rfl) (by kernel_rfl) (by kernel_rfl) (fun _ _ _ h => h) (by rfl) ?_ hS0 ?_
          rotate_left
          · (intro X hX; have y0 := keepCell hX k4; have y1 := keepCell hX ck; have y2 := keepCell hX e0; have y3 := keepCell hX e1; have y4 := keepCell hX e2; have y5 := keepCell hX e3; have y6 := keepCell hX e4; go_simp; try with_reducible rfl)
          simp only [Act.put, List.setIfInBounds_toArray, List.set_cons_zero, List.set_cons_succ]
          refine take_h (i := 2) (v := ?_) rfl (by kernel_rfl) (by kernel_rfl) (by kernel_rfl) (fun _ _ _ h => h) (by rfl) ?_ hS0 ?_
          rotate_left
          · (intro X hX; have y0 := keepCell hX k4; have y1 := keepCell hX ck; have y2 := keepCell hX e0; have y3 := keepCell hX e1; have y4 := keepCell hX e2; have y5 := keepCell hX e3; have y6 := keepCell hX e4; go_simp; try with_reducible rfl)
          simp only [Act.put, List.setIfInBounds_toArray, List.set_cons_zero, List.set_cons_succ]
          refine take_h (i := 3) (v := ?_) rfl (by kernel_rfl) (by kernel_rfl) (by kernel_rfl) (fun _ _ _ h => h) (by rfl) ?_ hS0 ?_
          rotate_left
          · (intro X hX; have y0 := keepCell hX k4; have y1 := keepCell hX ck; have y2 := keepCell hX e0; have y3 := keepCell hX e1; have y4 := keepCell hX e2; have y5 := keepCell hX e3; have y6 := keepCell hX e4; go_simp; try with_reducible rfl)
          simp only [Act.put, List.setIfInBounds_toArray, List.set_cons_zero, List.set_cons_succ]
          refine take_h (i := 4) (v := ?_) rfl (by kernel_rfl) (by kernel_rfl) (by kernel_rfl) (fun _ _ _ h => h) (by rfl) ?_ hS0 ?_
          rotate_left
          · (intro X hX; have y0 := keepCell hX k4; have y1 := keepCell hX ck; have y2 := keepCell hX e0; have y3 := keepCell hX e1; have y4 := keepCell hX e2; have y5 := keepCell hX e3; have y6 := keepCell hX e4; go_simp; try with_reducible rfl)
          simp only [Act.put, List.setIfInBounds_toArray, List.set_cons_zero, List.set_cons_succ]
          refine take_h (i := 5) (v := ?_) rfl (by kernel_rfl) (by kernel_rfl) (by kernel_rfl) (fun _ _ _ h => h) (by rfl) ?_ hS0 ?_
          rotate_left
          · (intro X hX; have y0 := keepCell hX k4; have y1 := keepCell hX ck; have y2 := keepCell hX e0; have y3 := keepCell hX e1; have y4 := keepCell hX e2; have y5 := keepCell hX e3; have y6 := keepCell hX e4; go_simp; try with_reducible rfl)
          simp only [Act.put, List.setIfInBounds_toArray, List.set_cons_zero, List.set_cons_succ]
          refine take_h (i := 6) (v := ?_) rfl (by kernel_rfl) (by kernel_rfl) (by kernel_rfl) (fun _ _ _ h => h) (by rfl) ?_ hS0 ?_
          rotate_left
          · (intro X hX; have y0 := keepCell hX k4; have y1 := keepCell hX ck; have y2 := keepCell hX e0; have y3 := keepCell hX e1; have y4 := keepCell hX e2; have y5 := keepCell hX e3; have y6 := keepCell hX e4; go_simp; try with_reducible rfl)
          simp only [Act.put, List.setIfInBounds_toArray, List.set_cons_zero, List.set_cons_succ]
          refine take_h (i := 8) (v := ?_) rfl (by kernel_rfl) (by kernel_rfl) (by kernel_rfl) (fun _ _ _ h => h) (by rfl) ?_ hS0 ?_
          rotate_left
          · (intro X hX; have y0 := keepCell hX k4; have y1 := keepCell hX ck; have y2 := keepCell hX e0; have y3 := keepCell hX e1; have y4 := keepCell hX e2; have y5 := keepCell hX e3; have y6 := keepCell hX e4; go_simp; try with_reducible rfl)
          simp only [Act.put, List.setIfInBounds_toArray, List.set_cons_zero, List.set_cons_succ]
          refine take_h (i := 10) (v := ?_) rfl (by kernel_rfl) (by kernel_rfl) (by kernel_rfl) (fun _ _ _ h => h) (by rfl) ?_ hS0 ?_
          rotate_left
          · (intro X hX; have y0 := keepCell hX k4; have y1 := keepCell hX ck; have y2 := keepCell hX e0; have y3 := keepCell hX e1; have y4 := keepCell hX e2; have y5 := keepCell hX e3; have y6 := keepCell hX e4; go_simp; try with_reducible rfl)
          simp only [Act.put, List.setIfInBounds_toArray, List.set_cons_zero, List.set_cons_succ]
          refine take_h (i := 11) (v := ?_) rfl (by kernel_rfl) (by kernel_rfl) (by kernel_rfl) (fun _ _ _ h => h) (by rfl) ?_ hS0 ?_
          rotate_left
          · (intro X hX; have y0 := keepCell hX k4; have y1 := keepCell hX ck; have y2 := keepCell hX e0; have y3 := keepCell hX e1; have y4 := keepCell hX e2; have y5 := keepCell hX e3; have y6 := keepCell hX e4; go_simp; try with_reducible rfl)
          simp only [Act.put, List.setIfInBounds_toArray, List.set_cons_zero, List.set_cons_succ]
          refine take_h (i := 12) (v := ?_) rfl (by kernel_rfl) (by kernel_rfl) (by kernel_rfl) (fun _ _ _ h => h) (by rfl) ?_ hS0 ?_
          rotate_left
          · (intro X hX; have y0 := keepCell hX k4; have y1 := keepCell hX ck; have y2 := keepCell hX e0; have y3 := keepCell hX e1; have y4 := keepCell hX e2; have y5 := keepCell hX e3; have y6 := keepCell hX e4; go_simp; try with_reducible rfl)
          simp only [Act.put, List.setIfInBounds_toArray, List.set_cons_zero, List.set_cons_succ]
          refine take_h (i := 13) (v := ?_) rfl (by kernel_rfl) (by kernel_rfl) (by kernel_rfl) (fun _ _ _ h => h) (by rfl) ?_ hS0 ?_
          rotate_left
          · (intro X hX; have y0 := keepCell hX k4; have y1 := keepCell hX ck; have y2 := keepCell hX e0; have y3 := keepCell hX e1; have y4 := keepCell hX e2; have y5 := keepCell hX e3; have y6 := keepCell hX e4; go_simp; try with_reducible rfl)
          simp only [Act.put, List.setIfInBounds_toArray, List.set_cons_zero, List.set_cons_succ]
          refine take_h (i := 14) (v := ?_) rfl (by kernel_rfl) (by kernel_rfl) (by kernel_rfl) (fun _ _ _ h => h) (by rfl) ?_ hS0 ?_
          rotate_left
          · (intro X hX; have y0 := keepCell hX k4; have y1 := keepCell hX ck; have y2 := keepCell hX e0; have y3 := keepCell hX e1; have y4 := keepCell hX e2; have y5 := keepCell hX e3; have y6 := keepCell hX e4; go_simp; try with_reducible rfl)
          simp only [Act.put, List.setIfInBounds_toArray, List.set_cons_zero, List.set_cons_succ]
          refine take_h (i := 15) (v := ?_) rfl (by kernel_rfl) (by kernel_rfl) (by kernel_rfl) (fun _ _ _ h => h) (by rfl) ?_ hS0 ?_
          rotate_left
          · (intro X hX; have y0 := keepCell hX k4; have y1 := keepCell hX ck; have y2 := keepCell hX e0; have y3 := keepCell hX e1; have y4 := keepCell hX e2; have y5 := keepCell hX e3; have y6 := keepCell hX e4; go_simp; try with_reducible rfl)
          simp only [Act.put, List.setIfInBounds_toArray, List.set_cons_zero, List.set_cons_succ]
          refine take_h (i := 16) (v := ?_) rfl (by kernel_rfl) (by kernel_rfl) (by kernel_rfl) (fun _ _ _ h => h) (by rfl) ?_ hS0 ?_
          rotate_left
          · (intro X hX; have y0 := keepCell hX k4; have y1 := keepCell hX ck; have y2 := keepCell hX e0; have y3 := keepCell hX e1; have y4 := keepCell hX e2; have y5 := keepCell hX e3; have y6 := keepCell hX e4; go_simp; try with_reducible rfl)
          simp only [Act.put, List.setIfInBounds_toArray, List.set_cons_zero, List.set_cons_succ]
          refine wpAnyH_ready (rs := [7, 17]) (by kernel_rfl) (by simp) ?_
          refine AllReadyH.cons rfl (fun KK hKK => ?_) (AllReadyH.cons rfl (fun KK hKK => ?_) AllReadyH.nil)
          · go_simp
            have hX : Below wr.heap.size wr (wr.alloc (.cells #[] 75)).drew := (valloc_bel (Below.refl _ _) _).drew
            refine hKK.out _ _ (vonto GT.out.bel hX) (fun _ => ?_)
            clear hKK KK
            refine wpAnyH_ready (rs := [9, 17]) (by kernel_rfl) (by simp) ?_
            refine AllReadyH.cons rfl (fun KK hKK => ?_) (AllReadyH.cons rfl (fun KK hKK => ?_) AllReadyH.nil)
            · obtain ⟨u7, Y8, hr8, h27, hbl8, hfar8, hsz8⟩ := p5_copy wr.heap.size (wr.alloc (.cells #[] 75)).drew wr.heap.size p op cp 38 (World.ownsRow.drew (by have := World.ownsRow_lit (base := wr.heap.size) (e := 75) (size := 3) wr #[] 0 (Nat.le_refl _) (by decide) rfl; simpa using this : (wr.alloc (.cells #[] 75)).ownsRow wr.heap.size 75 3 (.slice (some ⟨wr.heap.size, 0, none⟩) 0 0) 0 [])) (IPW.out.onto hX) (by have := hX.size; omega) (by omega)
              have hY : Below wr.heap.size wr Y8 := hbl8 wr rfl hX
              obtain ⟨ou7, cu7, rfl⟩ := own_sl5 h27
              refine step_app (by rfl) _ _ _ (by rfl) _ _ (by rfl) (by rfl) _ Y8 hr8 ?_
              refine hKK.out _ _ (vonto GT.out.bel hY) (fun _ => ?_)
              clear hKK KK hr8
              simp only [Act.put, List.setIfInBounds_toArray]
              have hXX := vonto hY (valloc_bel (Below.refl Y8.heap.size Y8) (.cells #[.string c, .int .i64 0, .bool false] 75))
              refine step_h (i := 17) rfl (by kernel_rfl) ?_
              intro KK hKK
              go_simp
              refine hKK.out _ _ (vonto GT.out.bel hXX) (fun _ => ?_)
              clear hKK KK
              have n30 := new_cells Y8 (sc (kyS c)) 75
              have g27a := h27.alloc (.cells #[.string c, .int .i64 0, .bool false] 75)
              refine step_h (i := 18) rfl (by kernel_rfl) ?_
              intro KK hKK
              refine step_append_lies _ (by rfl) _ _ _ (by rfl) wr.heap.size 75 i1 (.agg #[.string ⟨#[]⟩, .int .i64 0, .bool false]) 3 32 Tryz.underlying38 hi' hz0' hz1' hz2' rfl (by decide) _ p.length _ (by rfl) g27a ⟨Y8.heap.size, 0, none⟩ 1 1 (sc (kyS c)) (by rfl) rfl n30 (sc_one _) (by decide) (by unfold maxLen; omega) (by omega) (by have := (hXX).size; omega) (Y8.alloc (.cells #[.string c, .int .i64 0, .bool false] 75)).heap.size rfl ?_
              intro g9 cap9 w9 hown9 hgr9 hat9 hlt9
              have hb9 : Below wr.heap.size wr w9 := (hXX).grown hgr9 (by have := (hXX).size; omega) (fun q hq => (World.ownsRow.lt g27a q hq).1)
              have own9 : w9.ownsRow wr.heap.size 75 3 (.slice (some ⟨g9, 0, none⟩) (p.length + 1) cap9) (p ++ [(kyS c)]).length ((p ++ [(kyS c)]).flatMap sc) := by rw [List.flatMap_append, List.length_append]; simpa using hown9
              have IN9 := hid (own_inp own9 (fun s hs => (List.mem_append.1 hs).elim (fun h => HKEY.out s h) (fun h => by rw [List.mem_singleton.1 h]; exact hcs)))
              have HB9 := hid hb9
              refine hKK.out _ _ (vonto GT.out.bel hb9) (fun _ => ?_)
              clear hKK KK hown9 hgr9 hat9 own9
              refine step_h (i := 19) rfl (by kernel_rfl) ?_
              intro KK hKK
              go_simp
              have CA := hid (HIH.out t _ _ (p ++ [(kyS c)]) _ w9 (by omega) hpt (HVT.out.onto (vonto GT.out.bel HB9.out)) IN9.out (by rw [List.length_append, List.length_singleton]; omega))
              simp only [vv] at CA
              go_wp2_with (go_at_call 14; go_must (refine CA.out.mono ?_; rintro e wz ⟨ur, E', rfl, got', hmap'⟩))
              have hbz := vonto HB9.out got'.bel
              have hE0 : 0 < E'.length := by have := congrArg List.length hmap'; rw [List.length_map] at this; rw [this]; exact lfT_ne _ _
              have hEl : E'.length ≤ 100000 := by have := congrArg List.length hmap'; rw [List.length_map] at this; rw [this]; have := lfT_len t (p ++ [(kyS c)]); omega
              obtain ⟨gr, cr, rfl, -, -, -⟩ := own_at6 got'.row hE0
              refine hKK.out _ _ (vonto GT.out.bel hbz) (fun _ => ?_)
              clear hKK KK
              have gz := GT.out.onto hbz
              refine step_h (i := 20) rfl (by kernel_rfl) ?_
              intro KK hKK
              refine step_append_lies _ (by rfl) _ _ _ (by rfl) W1.heap.size 40 i2 (.agg #[.slice none 0 0, .int .i64 0, .int .i64 0, .string ⟨#[]⟩, .slice none 0 0, .slice none 0 0]) 6 104 Tryz.underlying32 hj' hy0' hy1' hy2' rfl (by decide) _ E.length _ (by rfl) gz.row ⟨gr, 0, none⟩ E'.length cr (E'.flatMap lcE) (by rfl) (flc_len E') (got'.row.cells rfl) (flc_ones got'.els got'.bs) hE0 (by unfold maxLen; omega) (by omega) (by have := gz.bel.size; omega) wz.heap.size rfl ?_
              intro ga capa wa howna hgra hata hlta
              have gta := gz.more (fun e he => (got'.els e he).mono (by have := (vonto GT.out.bel HB9.out).size; omega)) got'.bs howna hgra
              have GTA := hid gta
              have HMA : Hid ((E ++ E').map LE.pt = lfL T.ls 0 p ++ lfM (T.vs.take (j + 1)) T.ks p) := hid (by rw [List.map_append, HM.out, hmap']; rw [List.take_add_one, ht]; simp only [Option.toList_some]; rw [lfM_snoc t p (T.vs.take j) T.ks c (by rw [List.length_take, Nat.min_eq_left (by omega)]; exact hc)]; simp; rfl)
              refine hKK.out _ _ gta.bel (fun hSa => ?_)
              clear hKK KK howna hgra hata hlta gta gz
              simp only [Act.put, List.setIfInBounds_toArray, List.set_cons_zero, List.set_cons_succ]
              refine take_h (i := 21) (v := ?_) rfl (by kernel_rfl) (by kernel_rfl) (by kernel_rfl) (fun _ _ _ h => h) (by rfl) ?_ hSa ?_
              rotate_left
              · (intro X hX; go_simp; try with_reducible rfl)
              simp only [Act.put, List.setIfInBounds_toArray, List.set_cons_zero, List.set_cons_succ]
              refine wpAnyH_done (by kernel_rfl) ?_ _
              go_wp2_with fail
              go_roundw
              case rel => exact ⟨j + 1, E ++ E', val_int (by omega), hlt, GTA, HMA⟩
              case measure => simp [intOf]; omega
            · go_simp
              have hX2 : Below wr.heap.size wr ((wr.alloc (.cells #[] 75)).alloc (.cells #[.string c, .int .i64 0, .bool false] 75)).drew := (valloc_bel (valloc_bel (Below.refl _ _) _) _).drew
              refine hKK.out _ _ (vonto GT.out.bel hX2) (fun _ => ?_)
              clear hKK KK hX
              have n31 := new_cells (wr.alloc (.cells #[] 75)) (sc (kyS c)) 75
              rw [World.size_alloc] at n31
              obtain ⟨u7, Y8, hr8, h27, hbl8, hfar8, hsz8⟩ := p5_copy wr.heap.size ((wr.alloc (.cells #[] 75)).alloc (.cells #[.string c, .int .i64 0, .bool false] 75)).drew wr.heap.size p op cp 38 (World.ownsRow.drew (World.ownsRow.alloc (by have := World.ownsRow_lit (base := wr.heap.size) (e := 75) (size := 3) wr #[] 0 (Nat.le_refl _) (by decide) rfl; simpa using this : (wr.alloc (.cells #[] 75)).ownsRow wr.heap.size 75 3 (.slice (some ⟨wr.heap.size, 0, none⟩) 0 0) 0 []) _)) (IPW.out.onto hX2) (by have := hX2.size; omega) (by omega)
              have hY : Below wr.heap.size wr Y8 := hbl8 wr rfl hX2
              obtain ⟨ou7, cu7, rfl⟩ := own_sl5 h27
              refine step_h (i := 9) rfl (by kernel_rfl) ?_
              intro KK hKK
              refine step_app (by rfl) _ _ _ (by rfl) _ _ (by rfl) (by rfl) _ Y8 hr8 ?_
              refine hKK.out _ _ (vonto GT.out.bel hY) (fun _ => ?_)
              clear hKK KK hr8
              simp only [Act.put, List.setIfInBounds_toArray, List.set_cons_zero, List.set_cons_succ]
              have n30 : ∀ (z : Nat) (u : Value), (sc (kyS c))[z]? = some u → Y8.cell? ((⟨wr.heap.size + 1, 0, none⟩ : Addr).add z) = some u := fun z u h => by rw [hfar8 _ (by rw [addr_block]; simp) (by rw [addr_block]; show wr.heap.size + 1 ≠ wr.heap.size; omega)]; exact n31 z u h
              refine step_h (i := 18) rfl (by kernel_rfl) ?_
              intro KK hKK
              refine step_append_lies _ (by rfl) _ _ _ (by rfl) wr.heap.size 75 i1 (.agg #[.string ⟨#[]⟩, .int .i64 0, .bool false]) 3 32 Tryz.underlying38 hi' hz0' hz1' hz2' rfl (by decide) _ p.length _ (by rfl) h27 ⟨wr.heap.size + 1, 0, none⟩ 1 1 (sc (kyS c)) (by rfl) rfl n30 (sc_one _) (by decide) (by unfold maxLen; omega) (by omega) (by have := (hY).size; omega) (Y8).heap.size rfl ?_
              intro g9 cap9 w9 hown9 hgr9 hat9 hlt9
              have hb9 : Below wr.heap.size wr w9 := (hY).grown hgr9 (by have := (hY).size; omega) (fun q hq => (World.ownsRow.lt h27 q hq).1)
              have own9 : w9.ownsRow wr.heap.size 75 3 (.slice (some ⟨g9, 0, none⟩) (p.length + 1) cap9) (p ++ [(kyS c)]).length ((p ++ [(kyS c)]).flatMap sc) := by rw [List.flatMap_append, List.length_append]; simpa using hown9
              have IN9 := hid (own_inp own9 (fun s hs => (List.mem_append.1 hs).elim (fun h => HKEY.out s h) (fun h => by rw [List.mem_singleton.1 h]; exact hcs)))
              have HB9 := hid hb9
              refine hKK.out _ _ (vonto GT.out.bel hb9) (fun _ => ?_)
              clear hKK KK hown9 hgr9 hat9 own9
              refine step_h (i := 19) rfl (by kernel_rfl) ?_
              intro KK hKK
              go_simp
              have CA := hid (HIH.out t _ _ (p ++ [(kyS c)]) _ w9 (by omega) hpt (HVT.out.onto (vonto GT.out.bel HB9.out)) IN9.out (by rw [List.length_append, List.length_singleton]; omega))
              simp only [vv] at CA
              go_wp2_with (go_at_call 14; go_must (refine CA.out.mono ?_; rintro e wz ⟨ur, E', rfl, got', hmap'⟩))
              have hbz := vonto HB9.out got'.bel
              have hE0 : 0 < E'.length := by have := congrArg List.length hmap'; rw [List.length_map] at this; rw [this]; exact lfT_ne _ _
              have hEl : E'.length ≤ 100000 := by have := congrArg List.length hmap'; rw [List.length_map] at this; rw [this]; have := lfT_len t (p ++ [(kyS c)]); omega
              obtain ⟨gr, cr, rfl, -, -, -⟩ := own_at6 got'.row hE0
              refine hKK.out _ _ (vonto GT.out.bel hbz) (fun _ => ?_)
              clear hKK KK
              have gz := GT.out.onto hbz
              refine step_h (i := 20) rfl (by kernel_rfl) ?_
              intro KK hKK
              refine step_append_lies _ (by rfl) _ _ _ (by rfl) W1.heap.size 40 i2 (.agg #[.slice none 0 0, .int .i64 0, .int .i64 0, .string ⟨#[]⟩, .slice none 0 0, .slice none 0 0]) 6 104 Tryz.underlying32 hj' hy0' hy1' hy2' rfl (by decide) _ E.length _ (by rfl) gz.row ⟨gr, 0, none⟩ E'.length cr (E'.flatMap lcE) (by rfl) (flc_len E') (got'.row.cells rfl) (flc_ones got'.els got'.bs) hE0 (by unfold maxLen; omega) (by omega) (by have := gz.bel.size; omega) wz.heap.size rfl ?_
              intro ga capa wa howna hgra hata hlta
              have gta := gz.more (fun e he => (got'.els e he).mono (by have := (vonto GT.out.bel HB9.out).size; omega)) got'.bs howna hgra
              have GTA := hid gta
              have HMA : Hid ((E ++ E').map LE.pt = lfL T.ls 0 p ++ lfM (T.vs.take (j + 1)) T.ks p) := hid (by rw [List.map_append, HM.out, hmap']; rw [List.take_add_one, ht]; simp only [Option.toList_some]; rw [lfM_snoc t p (T.vs.take j) T.ks c (by rw [List.length_take, Nat.min_eq_left (by omega)]; exact hc)]; simp; rfl)
              refine hKK.out _ _ gta.bel (fun hSa => ?_)
              clear hKK KK howna hgra hata hlta gta gz
              simp only [Act.put, List.setIfInBounds_toArray, List.set_cons_zero, List.set_cons_succ]
              refine take_h (i := 21) (v := ?_) rfl (by kernel_rfl) (by kernel_rfl) (by kernel_rfl) (fun _ _ _ h => h) (by rfl) ?_ hSa ?_
              rotate_left
              · (intro X hX; go_simp; try with_reducible rfl)
              simp only [Act.put, List.setIfInBounds_toArray, List.set_cons_zero, List.set_cons_succ]
              refine wpAnyH_done (by kernel_rfl) ?_ _
              go_wp2_with fail
              go_roundw
              case rel => exact ⟨j + 1, E ++ E', val_int (by omega), hlt, GTA, HMA⟩
              case measure => simp [intOf]; omega
          · go_simp
            have hX1 : Below wr.heap.size wr (wr.alloc (.cells #[.string c, .int .i64 0, .bool false] 75)).drew := (valloc_bel (Below.refl _ _) _).drew
            refine hKK.out _ _ (vonto GT.out.bel hX1) (fun _ => ?_)
            clear hKK KK
            have n31 := new_cells wr (sc (kyS c)) 75
            have hX2 : Below wr.heap.size wr ((wr.alloc (.cells #[.string c, .int .i64 0, .bool false] 75)).alloc (.cells #[] 75)).drew := (valloc_bel (valloc_bel (Below.refl _ _) _) _).drew
            refine step_h (i := 7) rfl (by kernel_rfl) ?_
            intro KK hKK
            go_simp
            refine hKK.out _ _ (vonto GT.out.bel hX2) (fun _ => ?_)
            clear hKK KK
            obtain ⟨u7, Y8, hr8, h27, hbl8, hfar8, hsz8⟩ := p5_copy wr.heap.size ((wr.alloc (.cells #[.string c, .int .i64 0, .bool false] 75)).alloc (.cells #[] 75)).drew (wr.heap.size + 1) p op cp 38 (World.ownsRow.drew (by have := World.ownsRow_lit (base := wr.heap.size) (e := 75) (size := 3) (wr.alloc (.cells #[.string c, .int .i64 0, .bool false] 75)) #[] 0 (by simp) (by decide) rfl; rw [World.size_alloc] at this; simpa using this : ((wr.alloc (.cells #[.string c, .int .i64 0, .bool false] 75)).alloc (.cells #[] 75)).ownsRow wr.heap.size 75 3 (.slice (some ⟨wr.heap.size + 1, 0, none⟩) 0 0) 0 [])) (IPW.out.onto hX2) (by have := hX2.size; omega) (by omega)
            have hY : Below wr.heap.size wr Y8 := hbl8 wr rfl hX2
            obtain ⟨ou7, cu7, rfl⟩ := own_sl5 h27
            refine step_h (i := 9) rfl (by kernel_rfl) ?_
            intro KK hKK
            refine step_app (by rfl) _ _ _ (by rfl) _ _ (by rfl) (by rfl) _ Y8 hr8 ?_
            refine hKK.out _ _ (vonto GT.out.bel hY) (fun _ => ?_)
            clear hKK KK hr8
            simp only [Act.put, List.setIfInBounds_toArray, List.set_cons_zero, List.set_cons_succ]
            have n30 : ∀ (z : Nat) (u : Value), (sc (kyS c))[z]? = some u → Y8.cell? ((⟨wr.heap.size, 0, none⟩ : Addr).add z) = some u := fun z u h => by rw [hfar8 _ (by rw [addr_block]; simp; omega) (by rw [addr_block]; show wr.heap.size ≠ wr.heap.size + 1; omega)]; exact keepCell (valloc_bel (Below.refl _ _) _).drew (n31 z u h)
            refine step_h (i := 18) rfl (by kernel_rfl) ?_
            intro KK hKK
            refine step_append_lies _ (by rfl) _ _ _ (by rfl) wr.heap.size 75 i1 (.agg #[.string ⟨#[]⟩, .int .i64 0, .bool false]) 3 32 Tryz.underlying38 hi' hz0' hz1' hz2' rfl (by decide) _ p.length _ (by rfl) h27 ⟨wr.heap.size, 0, none⟩ 1 1 (sc (kyS c)) (by rfl) rfl n30 (sc_one _) (by decide) (by unfold maxLen; omega) (by omega) (by have := (hY).size; omega) (Y8).heap.size rfl ?_
            intro g9 cap9 w9 hown9 hgr9 hat9 hlt9
            have hb9 : Below wr.heap.size wr w9 := (hY).grown hgr9 (by have := (hY).size; omega) (fun q hq => (World.ownsRow.lt h27 q hq).1)
            have own9 : w9.ownsRow wr.heap.size 75 3 (.slice (some ⟨g9, 0, none⟩) (p.length + 1) cap9) (p ++ [(kyS c)]).length ((p ++ [(kyS c)]).flatMap sc) := by rw [List.flatMap_append, List.length_append]; simpa using hown9
            have IN9 := hid (own_inp own9 (fun s hs => (List.mem_append.1 hs).elim (fun h => HKEY.out s h) (fun h => by rw [List.mem_singleton.1 h]; exact hcs)))
            have HB9 := hid hb9
            refine hKK.out _ _ (vonto GT.out.bel hb9) (fun _ => ?_)
            clear hKK KK hown9 hgr9 hat9 own9
            refine step_h (i := 19) rfl (by kernel_rfl) ?_
            intro KK hKK
            go_simp
            have CA := hid (HIH.out t _ _ (p ++ [(kyS c)]) _ w9 (by omega) hpt (HVT.out.onto (vonto GT.out.bel HB9.out)) IN9.out (by rw [List.length_append, List.length_singleton]; omega))
            simp only [vv] at CA
            go_wp2_with (go_at_call 14; go_must (refine CA.out.mono ?_; rintro e wz ⟨ur, E', rfl, got', hmap'⟩))
            have hbz := vonto HB9.out got'.bel
            have hE0 : 0 < E'.length := by have := congrArg List.length hmap'; rw [List.length_map] at this; rw [this]; exact lfT_ne _ _
            have hEl : E'.length ≤ 100000 := by have := congrArg List.length hmap'; rw [List.length_map] at this; rw [this]; have := lfT_len t (p ++ [(kyS c)]); omega
            obtain ⟨gr, cr, rfl, -, -, -⟩ := own_at6 got'.row hE0
            refine hKK.out _ _ (vonto GT.out.bel hbz) (fun _ => ?_)
            clear hKK KK
            have gz := GT.out.onto hbz
            refine step_h (i := 20) rfl (by kernel_rfl) ?_
            intro KK hKK
            refine step_append_lies _ (by rfl) _ _ _ (by rfl) W1.heap.size 40 i2 (.agg #[.slice none 0 0, .int .i64 0, .int .i64 0, .string ⟨#[]⟩, .slice none 0 0, .slice none 0 0]) 6 104 Tryz.underlying32 hj' hy0' hy1' hy2' rfl (by decide) _ E.length _ (by rfl) gz.row ⟨gr, 0, none⟩ E'.length cr (E'.flatMap lcE) (by rfl) (flc_len E') (got'.row.cells rfl) (flc_ones got'.els got'.bs) hE0 (by unfold maxLen; omega) (by omega) (by have := gz.bel.size; omega) wz.heap.size rfl ?_
            intro ga capa wa howna hgra hata hlta
            have gta := gz.more (fun e he => (got'.els e he).mono (by have := (vonto GT.out.bel HB9.out).size; omega)) got'.bs howna hgra
            have GTA := hid gta
            have HMA : Hid ((E ++ E').map LE.pt = lfL T.ls 0 p ++ lfM (T.vs.take (j + 1)) T.ks p) := hid (by rw [List.map_append, HM.out, hmap']; rw [List.take_add_one, ht]; simp only [Option.toList_some]; rw [lfM_snoc t p (T.vs.take j) T.ks c (by rw [List.length_take, Nat.min_eq_left (by omega)]; exact hc)]; simp; rfl)
            refine hKK.out _ _ gta.bel (fun hSa => ?_)
            clear hKK KK howna hgra hata hlta gta gz
            simp only [Act.put, List.setIfInBounds_toArray, List.set_cons_zero, List.set_cons_succ]
            refine take_h (i := 21) (v := ?_) rfl (by kernel_rfl) (by kernel_rfl) (by kernel_rfl) (fun _ _ _ h => h) (by rfl) ?_ hSa ?_
            rotate_left
            · (intro X hX; go_simp; try with_reducible rfl)
            simp only [Act.put, List.setIfInBounds_toArray, List.set_cons_zero, List.set_cons_succ]
            refine wpAnyH_done (by kernel_rfl) ?_ _
            go_wp2_with fail
            go_roundw
            case rel => exact ⟨j + 1, E ++ E', val_int (by omega), hlt, GTA, HMA⟩
            case measure => simp [intOf]; omega
        · have HMF := hid (show E.map LE.pt = lfT T p by rw [HM.out, List.take_of_length_le (by omega), ← lfA_eq HPL.out HPS.out])
          have hle : w.heap.size ≤ W1.heap.size := by omega
          clear HM
          go_wp2_with fail
          go_ret
          exact ⟨_, E, rfl, ⟨GT.out.row.mono hle, fun e he => (GT.out.els e he).mono hle, GT.out.bs, vonto HAL.out GT.out.bel⟩, HMF.out⟩
end Go.Proofs.YtadbeodeiijhdaaGreatDoor
