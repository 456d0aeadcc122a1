
import Derived.Test.YtadbeodeiijhdaaGreatDoorFFlU
import Derived.Test.YtadbeodeiijhdaaGreatDoorFPathDoc
import Derived.Test.YtadbeodeiijhdaaGreatDoorFRefVal4
/- FlatSays, walked. -/
namespace Go.Proofs.YtadbeodeiijhdaaGreatDoor
open Go.RowKit

/-- the cells that two leaves' comparison reads -/
def SV (a b : Addr) (u v : Value) (t : VT) (x y x' y' : Value) (X : World) : Prop :=
  X.cell? a = some u ∧ X.cell? ⟨a.block, a.off + 1, none⟩ = some (.int .i64 t.kd) ∧ X.cell? ⟨a.block, a.off + 1 + 1, none⟩ = some (.int .i64 t.nm) ∧ X.cell? ⟨a.block, a.off + 1 + 2, none⟩ = some (.string t.st) ∧ X.cell? ⟨a.block, a.off + 1 + 3, none⟩ = some x ∧ X.cell? ⟨a.block, a.off + 1 + 4, none⟩ = some y ∧
  X.cell? b = some v ∧ X.cell? ⟨b.block, b.off + 1, none⟩ = some (.int .i64 t.kd) ∧ X.cell? ⟨b.block, b.off + 1 + 1, none⟩ = some (.int .i64 t.nm) ∧ X.cell? ⟨b.block, b.off + 1 + 2, none⟩ = some (.string t.st) ∧ X.cell? ⟨b.block, b.off + 1 + 3, none⟩ = some x' ∧ X.cell? ⟨b.block, b.off + 1 + 4, none⟩ = some y'
theorem SV.onto {a b : Addr} {u v : Value} {t : VT} {x y x' y' : Value} {X Y : World} (h : SV a b u v t x y x' y' X) (hb : Below X.heap.size X Y) : SV a b u v t x y x' y' Y := by
  obtain ⟨y0, y1, y2, y3, y4, y5, y6, y7, y8, y9, y10, y11⟩ := h
  exact ⟨keepCell hb y0, keepCell hb y1, keepCell hb y2, keepCell hb y3, keepCell hb y4, keepCell hb y5, keepCell hb y6, keepCell hb y7, keepCell hb y8, keepCell hb y9, keepCell hb y10, keepCell hb y11⟩
theorem SV.of {a b : Addr} {u v : Value} {t : VT} {x y x' y' : Value} {X : World} (h1 : X.cell? a = some u) (h2 : Node X (nx a) t x y) (h3 : X.cell? b = some v) (h4 : Node X (nx b) t x' y') : SV a b u v t x y x' y' X := by
  obtain ⟨a0, a1, a2, a3, a4⟩ := h2
  obtain ⟨b0, b1, b2, b3, b4⟩ := h4
  exact ⟨h1, a0, a1, a2, a3, a4, h3, b0, b1, b2, b3, b4⟩
theorem InLf.sl {w : World} {l : List (List PStep × VT)} {v : Value} (h : InLf w l v) : ∃ a o c, v = .slice o l.length c ∧ l.length ≤ c ∧ c ≤ maxLen ∧ (0 < l.length → o = some a) ∧ ∀ i e, l[i]? = some e → ∃ u x y, w.cell? (a.add (i * 6)) = some u ∧ Node w (nx (a.add (i * 6))) e.2 x y ∧ InP w e.1 u ∧ HV w e.2 x y := by
  obtain ⟨a, ⟨o, c, rfl, h1, h2, h3⟩, h4⟩ := h
  exact ⟨a, o, c, rfl, h1, h2, h3, h4⟩
theorem fl_small (T : VT) : (flatH T).length ≤ 1000000 ∧ (flatR T).length ≤ 1000 ∧ ∀ r ∈ flatR T, r.length ≤ 1000 := by
  unfold flatH flatR
  by_cases h : flatE T = 0
  · rw [if_pos h, if_pos h]
    obtain ⟨h1, h2, h3, h4⟩ := flat_zero h
    have e : (flatN T).length = (flatC T).length := by unfold flatN; rw [List.length_map]
    exact ⟨by omega, by rw [flatW_len]; omega, fun r hr => by rw [flatW_row hr]; omega⟩
  · rw [if_neg h, if_neg h]
    exact ⟨by simp, by simp, fun r hr => by simp at hr⟩
set_option maxRecDepth 100000 in
set_option maxHeartbeats 8000000 in
theorem Tryz.flatSays_walk (T : VT) (x y : Value) (w : World) (hg : GlobF w) (hT : HV w T x y) :
    Calls Tryz.prog 3 #[vv T x y] w fun e w' => e = .returned (.bool true) ∧ Below w.heap.size w w' := by
  have CA := hid (fun X (hX : Below w.heap.size w X) => awake16 X (hg.on hX))
  have CH := hid (fun X (hX : Below w.heap.size w X) => heavy_any T x y 250 40 X (hT.onto hX) (by omega) (by omega))
  have CV := hid (fun X (hX : Below w.heap.size w X) => rvalue_any T x y X (hT.onto hX))
  have CF := hid (fun X (hX : Below w.heap.size w X) => flat_tab T x y X (hT.onto hX) (hg.on hX))
  have CD := hid (fun X (hX : Below w.heap.size w X) => dflat_any T x y X (hT.onto hX))
  have CL := hid (fun X (hX : Below w.heap.size w X) (hm : mayB 0 1 T = true) => leaves_in T x y X (hT.onto hX) hm)
  have CM := hid (fun X (hX : Below w.heap.size w X) (hm : mayB 0 1 T = true) => dleaves_in T x y X (hT.onto hX) hm)
  obtain ⟨al, bl, f, g, p, q, oL, oM, cL, cM, rfl, rfl, -, -, hL3, hM3, hK, -, hlL, hlM, kL, kK, kM, rL, rM, -, -⟩ := hT.parts
  have hal : Below w.heap.size w (w.alloc (.cells #[.int .i64 T.kd, .int .i64 T.nm, .string T.st, .slice oL T.ls.length cL, .slice oM T.vs.length cM] 26)) := valloc_bel (Below.refl _ _) _
  have hcs : Cs (w.alloc (.cells #[.int .i64 T.kd, .int .i64 T.nm, .string T.st, .slice oL T.ls.length cL, .slice oM T.vs.length cM] 26)) w.heap.size [.int .i64 T.kd, .int .i64 T.nm, .string T.st, .slice oL T.ls.length cL, .slice oM T.vs.length cM] := fun i v h => cells_in rfl rfl (by simpa using h)
  simp only [vv] at CH CV CF CD CL CM ⊢
  obtain ⟨F0, hF0⟩ : ∃ b, (!fitB T 40 250) = b := ⟨_, rfl⟩
  obtain ⟨M0, hM0⟩ : ∃ b, mayB 0 1 T = b := ⟨_, rfl⟩
  rw [hF0] at CH
  rw [hM0] at CV CL CM
  have HM0 := hid hM0
  clear hT hg kL kK kM rL rM hK hM3 hL3 hF0 hM0 hlL hlM
  go_enter Tryz.func3, Tryz.ntmps3
  go_upto_region 1 with fail
  refine cewp_gen ?_
  intro W hW
  rw [← hW] at hal hcs
  have HB0 := hid hal
  clear hW hal
  go_wp2_with fail
  go_at_call 10
  refine (CA.out _ HB0.out).mono ?_
  rintro e w1 ⟨rfl, hb1⟩
  have hcs1 := hcs.onto hb1
  have g0 := hcs1 0 _ rfl
  have g1 := hcs1 1 _ rfl
  have g2 := hcs1 2 _ rfl
  have g3 := hcs1 3 _ rfl
  have g4 := hcs1 4 _ rfl
  have HB1 := hid (vonto HB0.out hb1)
  clear hb1 hcs CA HB0 hcs1
  go_wp2_with fail
  go_at_call 11
  refine (CH.out _ HB1.out).mono ?_
  rintro e w2 ⟨rfl, hb2⟩
  have g0 := keepCell hb2 g0
  have g1 := keepCell hb2 g1
  have g2 := keepCell hb2 g2
  have g3 := keepCell hb2 g3
  have g4 := keepCell hb2 g4
  have HB2 := hid (vonto HB1.out hb2)
  clear hb2 CH HB1
  cases F0 with
  | true =>
    go_wp2_with fail
    go_ret
    exact ⟨rfl, HB2.out⟩
  | false =>
  go_wp2_with fail
  go_at_call 12
  refine (CV.out _ HB2.out).mono ?_
  rintro e w3 ⟨rfl, hb3⟩
  have g0 := keepCell hb3 g0
  have g1 := keepCell hb3 g1
  have g2 := keepCell hb3 g2
  have g3 := keepCell hb3 g3
  have g4 := keepCell hb3 g4
  have HB3 := hid (vonto HB2.out hb3)
  clear hb3 CV HB2
  cases M0 with
  | false =>
    go_wp2_with fail
    go_at_call 17
    refine (CF.out _ HB3.out).mono ?_
    rintro e w6 ⟨oh, ch, orr, cr, rfl, hh, hr, hb6⟩
    have g0 := keepCell hb6 g0
    have g1 := keepCell hb6 g1
    have g2 := keepCell hb6 g2
    have g3 := keepCell hb6 g3
    have g4 := keepCell hb6 g4
    have HH := hid hh
    have HR := hid hr
    have HB6 := hid (vonto HB3.out hb6)
    clear hh hr hb6 CF HB3
    obtain ⟨E0, hE0⟩ : ∃ e, flatE T = e := ⟨_, rfl⟩
    rw [hE0]
    have HE0 := hid hE0
    clear hE0
    go_upto_region 16 with fail
    refine cewp_gen ?_
    intro W7 hW
    obtain ⟨x0, x1, hbW⟩ := tb2_of hW
    have g0 := keepCell hbW g0
    have g1 := keepCell hbW g1
    have g2 := keepCell hbW g2
    have g3 := keepCell hbW g3
    have g4 := keepCell hbW g4
    have HBW := hid (vonto HB6.out hbW)
    have HHW := hid (HH.out.onto hbW)
    have HRW := hid (HR.out.onto hbW)
    clear hW hbW HH HR HB6
    go_wp2_with fail
    go_at_call 18
    refine (CD.out _ HBW.out).mono ?_
    rintro e w8 ⟨h8, r8, rfl, hh8, hr8, hb8⟩
    rw [HE0.out]
    have x0 := keepCell hb8 x0
    have x1 := keepCell hb8 x1
    have HH8 := hid (HHW.out.onto hb8)
    have HR8 := hid (HRW.out.onto hb8)
    have HB8 := hid (vonto HBW.out hb8)
    have HD8 := hid hh8
    have HE8 := hid hr8
    clear hb8 hh8 hr8 HHW HRW HBW CD g0 g1 g2 g3 g4
    go_wp2_with fail
    go_at_call 19
    refine (ftexts_same (flatH T) _ _ w8 (fl_small T).1 HH8.out HD8.out).mono ?_
    rintro e w9 ⟨rfl, hw9⟩
    have hb9 : Below w8.heap.size w8 w9 := by obtain ⟨m, rfl⟩ := hw9; exact below_drewN (Below.refl _ _) m
    have x1 := keepCell hb9 x1
    have HR9 := hid (HR8.out.onto hb9)
    have HE9 := hid (HE8.out.onto hb9)
    have HB9 := hid (vonto HB8.out hb9)
    clear hw9 hb9 HH8 HD8 HR8 HE8 HB8 x0
    go_wp2_with fail
    go_at_call 20
    refine (frows_same (flatR T) _ _ w9 (fl_small T).2.1 (fl_small T).2.2 HR9.out HE9.out).mono ?_
    rintro e w10 ⟨rfl, hb10⟩
    have HB10 := hid (vonto HB9.out hb10)
    clear hb10
    go_wp2_with fail
    go_ret
    exact ⟨rfl, HB10.out⟩
  | true =>
  go_wp2_with fail
  go_at_call 13
  refine (CL.out _ HB3.out (by trivial)).mono ?_
  rintro e w4 ⟨v4, rfl, hl4, hb4⟩
  have g0 := keepCell hb4 g0
  have g1 := keepCell hb4 g1
  have g2 := keepCell hb4 g2
  have g3 := keepCell hb4 g3
  have g4 := keepCell hb4 g4
  have HB4 := hid (vonto HB3.out hb4)
  have HL4 := hid hl4
  obtain ⟨a, o, c, rfl, l1, l2, l3, -⟩ := hl4.sl
  clear hb4 CL HB3 hl4 l1 l2 l3
  go_wp2_with fail
  go_at_call 14
  refine (CM.out _ HB4.out (by trivial)).mono ?_
  rintro e w5 ⟨v5, rfl, hl5, hb5⟩
  have g0 := keepCell hb5 g0
  have g1 := keepCell hb5 g1
  have g2 := keepCell hb5 g2
  have g3 := keepCell hb5 g3
  have g4 := keepCell hb5 g4
  have HB5 := hid (vonto HB4.out hb5)
  have HL5 := hid hl5
  have HL6 := hid (HL4.out.onto hb5)
  obtain ⟨a', o', c', rfl, l1', l2', l3', l4'⟩ := hl5.sl
  obtain ⟨a, o2, c2, e1, l1, l2, l3, l4⟩ := HL6.out.sl
  injection e1 with e1 e2 e3
  subst e1 e3
  have h4 := (good_sz HM0.out).1
  have hlen := lfT_len T []
  obtain ⟨L, hL⟩ : ∃ L, lfT T [] = L := ⟨_, rfl⟩
  rw [hL] at l1 l3 l4 l1' l3' l4' hlen ⊢
  obtain ⟨n, hn⟩ : ∃ n, L.length = n := ⟨_, rfl⟩
  rw [hn] at l1 l3 l1' l3' hlen ⊢
  have hn4 : n ≤ 4096 := by omega
  have HN := hid hn
  have H4 := hid l4
  have H5 := hid l4'
  have L3 := hid l3
  have L3' := hid l3'
  clear hb5 CM HB4 HL4 HL5 HL6 hl5 h4 hlen hL hn l3 l3' l4 l4' e2
  go_wp2_with fail
  go_loopw [5] (fun i wr => ∃ j : Nat, i = .int .i64 j ∧ j ≤ n ∧ Hid (Below w5.heap.size w5 wr)) (fun i _ => n - (intOf i).toNat)
  case atStart => exact ⟨0, rfl, Nat.zero_le _, hid (Below.refl _ _)⟩
  case round =>
    obtain ⟨j, rfl, hj, HR⟩ := hrel
    by_cases hlt : j < n
    · obtain ⟨e, he⟩ : ∃ e, L[j]? = some e := ⟨L[j]'(by have := HN.out; omega), List.getElem?_eq_getElem _⟩
      obtain ⟨u, X1, Y1, h1, h2, h3, h4⟩ := H4.out j e he
      obtain ⟨u', X2, Y2, h1', h2', h3', h4'⟩ := H5.out j e he
      obtain rfl := L3.out (by omega)
      obtain rfl := L3'.out (by omega)
      have hS0 : SV (a.add (j * 6)) (a'.add (j * 6)) u u' e.2 X1 Y1 X2 Y2 wr.drew := (SV.of h1 h2 h1' h2').onto (HR.out.drew)
      have CP := hid (fun X (hX : Below wr.heap.size wr X) => psame_any e.1 e.1 u u' X (h3.onto (vonto HR.out hX)) (h3'.onto (vonto HR.out hX)) true (by simp))
      have CS := hid (fun X (hX : Below wr.heap.size wr X) => same_any _ e.2 e.2 X1 Y1 X2 Y2 false X (Nat.le_refl _) (h4.onto (vonto HR.out hX)) (h4'.onto (vonto HR.out hX)))
      rw [eq_same] at CS
      obtain ⟨t, ht⟩ : ∃ t, e.2 = t := ⟨_, rfl⟩
      rw [ht] at CS hS0
      simp only [vv] at CS
      clear h1 h2 h3 h4 h1' h2' h3' h4' ht he
      go_wp2_with fail
      refine wp_region_held (S := SV (a.add (j * 6)) (a'.add (j * 6)) u u' t X1 Y1 X2 Y2) (by kernel_rfl) ?_
      simp only [List.size_toArray, List.length_cons, List.length_nil]
      refine take_h (i := 0) (v := ?_) rfl (by kernel_rfl) (by kernel_rfl) (by kernel_rfl) (fun _ _ _ h => h) (by rfl) ?_ hS0 ?_
      rotate_left
      · (intro X hX; obtain ⟨y0, y1, y2, y3, y4, y5, y6, y7, y8, y9, y10, y11⟩ := hX; go_simp; try with_reducible rfl)
      simp only [Act.put, List.setIfInBounds_toArray, List.set_cons_zero, List.set_cons_succ]
      refine take_h (i := 1) (v := ?_) rfl (by kernel_rfl) (by kernel_rfl) (by kernel_rfl) (fun _ _ _ h => h) (by rfl) ?_ hS0 ?_
      rotate_left
      · (intro X hX; obtain ⟨y0, y1, y2, y3, y4, y5, y6, y7, y8, y9, y10, y11⟩ := hX; go_simp; try with_reducible rfl)
      simp only [Act.put, List.setIfInBounds_toArray, List.set_cons_zero, List.set_cons_succ]
      refine take_h (i := 2) (v := ?_) rfl (by kernel_rfl) (by kernel_rfl) (by kernel_rfl) (fun _ _ _ h => h) (by rfl) ?_ hS0 ?_
      rotate_left
      · (intro X hX; obtain ⟨y0, y1, y2, y3, y4, y5, y6, y7, y8, y9, y10, y11⟩ := hX; go_simp; try with_reducible rfl)
      simp only [Act.put, List.setIfInBounds_toArray, List.set_cons_zero, List.set_cons_succ]
      refine take_h (i := 3) (v := ?_) rfl (by kernel_rfl) (by kernel_rfl) (by kernel_rfl) (fun _ _ _ h => h) (by rfl) ?_ hS0 ?_
      rotate_left
      · (intro X hX; obtain ⟨y0, y1, y2, y3, y4, y5, y6, y7, y8, y9, y10, y11⟩ := hX; go_simp; try with_reducible rfl)
      simp only [Act.put, List.setIfInBounds_toArray, List.set_cons_zero, List.set_cons_succ]
      refine take_h (i := 4) (v := ?_) rfl (by kernel_rfl) (by kernel_rfl) (by kernel_rfl) (fun _ _ _ h => h) (by rfl) ?_ hS0 ?_
      rotate_left
      · (intro X hX; obtain ⟨y0, y1, y2, y3, y4, y5, y6, y7, y8, y9, y10, y11⟩ := hX; go_simp; try with_reducible rfl)
      simp only [Act.put, List.setIfInBounds_toArray, List.set_cons_zero, List.set_cons_succ]
      refine take_h (i := 5) (v := ?_) rfl (by kernel_rfl) (by kernel_rfl) (by kernel_rfl) (fun _ _ _ h => h) (by rfl) ?_ hS0 ?_
      rotate_left
      · (intro X hX; obtain ⟨y0, y1, y2, y3, y4, y5, y6, y7, y8, y9, y10, y11⟩ := hX; go_simp; try with_reducible rfl)
      simp only [Act.put, List.setIfInBounds_toArray, List.set_cons_zero, List.set_cons_succ]
      refine take_h (i := 6) (v := ?_) rfl (by kernel_rfl) (by kernel_rfl) (by kernel_rfl) (fun _ _ _ h => h) (by rfl) ?_ hS0 ?_
      rotate_left
      · (intro X hX; obtain ⟨y0, y1, y2, y3, y4, y5, y6, y7, y8, y9, y10, y11⟩ := hX; go_simp; try with_reducible rfl)
      simp only [Act.put, List.setIfInBounds_toArray, List.set_cons_zero, List.set_cons_succ]
      refine take_h (i := 7) (v := ?_) rfl (by kernel_rfl) (by kernel_rfl) (by kernel_rfl) (fun _ _ _ h => h) (by rfl) ?_ hS0 ?_
      rotate_left
      · (intro X hX; obtain ⟨y0, y1, y2, y3, y4, y5, y6, y7, y8, y9, y10, y11⟩ := hX; go_simp; try with_reducible rfl)
      simp only [Act.put, List.setIfInBounds_toArray, List.set_cons_zero, List.set_cons_succ]
      refine take_h (i := 8) (v := ?_) rfl (by kernel_rfl) (by kernel_rfl) (by kernel_rfl) (fun _ _ _ h => h) (by rfl) ?_ hS0 ?_
      rotate_left
      · (intro X hX; obtain ⟨y0, y1, y2, y3, y4, y5, y6, y7, y8, y9, y10, y11⟩ := hX; go_simp; try with_reducible rfl)
      simp only [Act.put, List.setIfInBounds_toArray, List.set_cons_zero, List.set_cons_succ]
      refine take_h (i := 9) (v := ?_) rfl (by kernel_rfl) (by kernel_rfl) (by kernel_rfl) (fun _ _ _ h => h) (by rfl) ?_ hS0 ?_
      rotate_left
      · (intro X hX; obtain ⟨y0, y1, y2, y3, y4, y5, y6, y7, y8, y9, y10, y11⟩ := hX; go_simp; try with_reducible rfl)
      simp only [Act.put, List.setIfInBounds_toArray, List.set_cons_zero, List.set_cons_succ]
      refine step_h (i := 10) rfl (by kernel_rfl) ?_
      intro KK hKK
      go_simp
      go_at_call 15
      refine (CP.out _ (Below.refl _ _).drew).mono ?_
      rintro e wA ⟨rfl, hbA⟩
      have HBA : Hid (Below wr.heap.size wr wA) := hid (vonto (Below.refl wr.heap.size wr).drew hbA)
      go_wp2_with fail
      refine hKK.out _ _ (hS0.onto hbA) (fun hS1 => ?_)
      clear hKK KK hS0 hbA
      try simp only [Act.put, List.setIfInBounds_toArray, List.set_cons_zero, List.set_cons_succ]
      refine take_h (i := 11) (v := ?_) rfl (by kernel_rfl) (by kernel_rfl) (by kernel_rfl) (fun _ _ _ h => h) (by rfl) ?_ hS1 ?_
      rotate_left
      · (intro X hX; obtain ⟨y0, y1, y2, y3, y4, y5, y6, y7, y8, y9, y10, y11⟩ := hX; go_simp; try with_reducible rfl)
      simp only [Act.put, List.setIfInBounds_toArray, List.set_cons_zero, List.set_cons_succ]
      refine take_h (i := 12) (v := ?_) rfl (by kernel_rfl) (by kernel_rfl) (by kernel_rfl) (fun _ _ _ h => h) (by rfl) ?_ hS1 ?_
      rotate_left
      · (intro X hX; obtain ⟨y0, y1, y2, y3, y4, y5, y6, y7, y8, y9, y10, y11⟩ := hX; go_simp; try with_reducible rfl)
      simp only [Act.put, List.setIfInBounds_toArray, List.set_cons_zero, List.set_cons_succ]
      refine take_h (i := 13) (v := ?_) rfl (by kernel_rfl) (by kernel_rfl) (by kernel_rfl) (fun _ _ _ h => h) (by rfl) ?_ hS1 ?_
      rotate_left
      · (intro X hX; obtain ⟨y0, y1, y2, y3, y4, y5, y6, y7, y8, y9, y10, y11⟩ := hX; go_simp; try with_reducible rfl)
      simp only [Act.put, List.setIfInBounds_toArray, List.set_cons_zero, List.set_cons_succ]
      refine take_h (i := 14) (v := ?_) rfl (by kernel_rfl) (by kernel_rfl) (by kernel_rfl) (fun _ _ _ h => h) (by rfl) ?_ hS1 ?_
      rotate_left
      · (intro X hX; obtain ⟨y0, y1, y2, y3, y4, y5, y6, y7, y8, y9, y10, y11⟩ := hX; go_simp; try with_reducible rfl)
      simp only [Act.put, List.setIfInBounds_toArray, List.set_cons_zero, List.set_cons_succ]
      refine take_h (i := 15) (v := ?_) rfl (by kernel_rfl) (by kernel_rfl) (by kernel_rfl) (fun _ _ _ h => h) (by rfl) ?_ hS1 ?_
      rotate_left
      · (intro X hX; obtain ⟨y0, y1, y2, y3, y4, y5, y6, y7, y8, y9, y10, y11⟩ := hX; go_simp; try with_reducible rfl)
      simp only [Act.put, List.setIfInBounds_toArray, List.set_cons_zero, List.set_cons_succ]
      refine take_h (i := 16) (v := ?_) rfl (by kernel_rfl) (by kernel_rfl) (by kernel_rfl) (fun _ _ _ h => h) (by rfl) ?_ hS1 ?_
      rotate_left
      · (intro X hX; obtain ⟨y0, y1, y2, y3, y4, y5, y6, y7, y8, y9, y10, y11⟩ := hX; go_simp; try with_reducible rfl)
      simp only [Act.put, List.setIfInBounds_toArray, List.set_cons_zero, List.set_cons_succ]
      refine take_h (i := 17) (v := ?_) rfl (by kernel_rfl) (by kernel_rfl) (by kernel_rfl) (fun _ _ _ h => h) (by rfl) ?_ hS1 ?_
      rotate_left
      · (intro X hX; obtain ⟨y0, y1, y2, y3, y4, y5, y6, y7, y8, y9, y10, y11⟩ := hX; go_simp; try with_reducible rfl)
      simp only [Act.put, List.setIfInBounds_toArray, List.set_cons_zero, List.set_cons_succ]
      refine take_h (i := 18) (v := ?_) rfl (by kernel_rfl) (by kernel_rfl) (by kernel_rfl) (fun _ _ _ h => h) (by rfl) ?_ hS1 ?_
      rotate_left
      · (intro X hX; obtain ⟨y0, y1, y2, y3, y4, y5, y6, y7, y8, y9, y10, y11⟩ := hX; go_simp; try with_reducible rfl)
      simp only [Act.put, List.setIfInBounds_toArray, List.set_cons_zero, List.set_cons_succ]
      refine take_h (i := 19) (v := ?_) rfl (by kernel_rfl) (by kernel_rfl) (by kernel_rfl) (fun _ _ _ h => h) (by rfl) ?_ hS1 ?_
      rotate_left
      · (intro X hX; obtain ⟨y0, y1, y2, y3, y4, y5, y6, y7, y8, y9, y10, y11⟩ := hX; go_simp; try with_reducible rfl)
      simp only [Act.put, List.setIfInBounds_toArray, List.set_cons_zero, List.set_cons_succ]
      refine take_h (i := 20) (v := ?_) rfl (by kernel_rfl) (by kernel_rfl) (by kernel_rfl) (fun _ _ _ h => h) (by rfl) ?_ hS1 ?_
      rotate_left
      · (intro X hX; obtain ⟨y0, y1, y2, y3, y4, y5, y6, y7, y8, y9, y10, y11⟩ := hX; go_simp; try with_reducible rfl)
      simp only [Act.put, List.setIfInBounds_toArray, List.set_cons_zero, List.set_cons_succ]
      refine take_h (i := 21) (v := ?_) rfl (by kernel_rfl) (by kernel_rfl) (by kernel_rfl) (fun _ _ _ h => h) (by rfl) ?_ hS1 ?_
      rotate_left
      · (intro X hX; obtain ⟨y0, y1, y2, y3, y4, y5, y6, y7, y8, y9, y10, y11⟩ := hX; go_simp; try with_reducible rfl)
      simp only [Act.put, List.setIfInBounds_toArray, List.set_cons_zero, List.set_cons_succ]
      refine take_h (i := 22) (v := ?_) rfl (by kernel_rfl) (by kernel_rfl) (by kernel_rfl) (fun _ _ _ h => h) (by rfl) ?_ hS1 ?_
      rotate_left
      · (intro X hX; obtain ⟨y0, y1, y2, y3, y4, y5, y6, y7, y8, y9, y10, y11⟩ := hX; go_simp; try with_reducible rfl)
      simp only [Act.put, List.setIfInBounds_toArray, List.set_cons_zero, List.set_cons_succ]
      refine step_h (i := 23) rfl (by kernel_rfl) ?_
      intro KK hKK
      go_simp
      go_at_call 16
      refine (CS.out _ HBA.out).mono ?_
      rintro e wB ⟨rfl, hbB⟩
      have HBB := hid (vonto HBA.out hbB)
      go_wp2_with fail
      refine hKK.out _ _ (hS1.onto hbB) (fun hS2 => ?_)
      clear hKK KK hS1 hbB
      try simp only [Act.put, List.setIfInBounds_toArray, List.set_cons_zero, List.set_cons_succ]
      refine take_h (i := 24) (v := ?_) rfl (by kernel_rfl) (by kernel_rfl) (by kernel_rfl) (fun _ _ _ h => h) (by rfl) ?_ hS2 ?_
      rotate_left
      · (intro X hX; obtain ⟨y0, y1, y2, y3, y4, y5, y6, y7, y8, y9, y10, y11⟩ := hX; go_simp; try with_reducible rfl)
      simp only [Act.put, List.setIfInBounds_toArray, List.set_cons_zero, List.set_cons_succ]
      refine take_h (i := 25) (v := ?_) rfl (by kernel_rfl) (by kernel_rfl) (by kernel_rfl) (fun _ _ _ h => h) (by rfl) ?_ hS2 ?_
      rotate_left
      · (intro X hX; obtain ⟨y0, y1, y2, y3, y4, y5, y6, y7, y8, y9, y10, y11⟩ := hX; go_simp; try with_reducible rfl)
      simp only [Act.put, List.setIfInBounds_toArray, List.set_cons_zero, List.set_cons_succ]
      refine wpAnyH_done (by kernel_rfl) ?_ _
      have HR2 := hid (vonto HR.out HBB.out)
      clear hS2 HBB HBA CP CS
      go_wp2_with fail
      go_roundw
      case rel => exact ⟨j + 1, val_int (by omega), by omega, HR2⟩
      case measure => simp [intOf]; omega
    · have hjn : j = n := by omega
      have g0 := keepCell HR.out g0
      have g1 := keepCell HR.out g1
      have g2 := keepCell HR.out g2
      have g3 := keepCell HR.out g3
      have g4 := keepCell HR.out g4
      have HBR := hid (vonto HB5.out HR.out)
      clear H4 H5 L3 L3' HN HR HB5
      go_wp2_with fail
      go_at_call 17
      refine (CF.out _ HBR.out).mono ?_
      rintro e w6 ⟨oh, ch, orr, cr, rfl, hh, hr, hb6⟩
      have g0 := keepCell hb6 g0
      have g1 := keepCell hb6 g1
      have g2 := keepCell hb6 g2
      have g3 := keepCell hb6 g3
      have g4 := keepCell hb6 g4
      have HH := hid hh
      have HR := hid hr
      have HB6 := hid (vonto HBR.out hb6)
      clear hh hr hb6 CF HBR
      obtain ⟨E0, hE0⟩ : ∃ e, flatE T = e := ⟨_, rfl⟩
      rw [hE0]
      have HE0 := hid hE0
      clear hE0
      go_upto_region 16 with fail
      refine cewp_gen ?_
      intro W7 hW
      obtain ⟨x0, x1, hbW⟩ := tb2_of hW
      have g0 := keepCell hbW g0
      have g1 := keepCell hbW g1
      have g2 := keepCell hbW g2
      have g3 := keepCell hbW g3
      have g4 := keepCell hbW g4
      have HBW := hid (vonto HB6.out hbW)
      have HHW := hid (HH.out.onto hbW)
      have HRW := hid (HR.out.onto hbW)
      clear hW hbW HH HR HB6
      go_wp2_with fail
      go_at_call 18
      refine (CD.out _ HBW.out).mono ?_
      rintro e w8 ⟨h8, r8, rfl, hh8, hr8, hb8⟩
      rw [HE0.out]
      have x0 := keepCell hb8 x0
      have x1 := keepCell hb8 x1
      have HH8 := hid (HHW.out.onto hb8)
      have HR8 := hid (HRW.out.onto hb8)
      have HB8 := hid (vonto HBW.out hb8)
      have HD8 := hid hh8
      have HE8 := hid hr8
      clear hb8 hh8 hr8 HHW HRW HBW CD g0 g1 g2 g3 g4
      go_wp2_with fail
      go_at_call 19
      refine (ftexts_same (flatH T) _ _ w8 (fl_small T).1 HH8.out HD8.out).mono ?_
      rintro e w9 ⟨rfl, hw9⟩
      have hb9 : Below w8.heap.size w8 w9 := by obtain ⟨m, rfl⟩ := hw9; exact below_drewN (Below.refl _ _) m
      have x1 := keepCell hb9 x1
      have HR9 := hid (HR8.out.onto hb9)
      have HE9 := hid (HE8.out.onto hb9)
      have HB9 := hid (vonto HB8.out hb9)
      clear hw9 hb9 HH8 HD8 HR8 HE8 HB8 x0
      go_wp2_with fail
      go_at_call 20
      refine (frows_same (flatR T) _ _ w9 (fl_small T).2.1 (fl_small T).2.2 HR9.out HE9.out).mono ?_
      rintro e w10 ⟨rfl, hb10⟩
      have HB10 := hid (vonto HB9.out hb10)
      clear hb10
      go_wp2_with fail
      go_ret
      exact ⟨rfl, HB10.out⟩
end Go.Proofs.YtadbeodeiijhdaaGreatDoor
