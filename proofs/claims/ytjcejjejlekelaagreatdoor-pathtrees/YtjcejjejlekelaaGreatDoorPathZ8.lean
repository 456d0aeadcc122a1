/- path.Set, walked. -/
import Derived.Test.YtjcejjejlekelaaGreatDoorPathIns
namespace Go.Proofs.YtjcejjejlekelaaGreatDoor
open Go.RowKit

/-- what is set at a path -/
def setP (T : VT) (ps : List PStep) (x : VT) : Option VT := match ps.getLast? with
  | none => some x
  | some s => match getP T ps.dropLast with
    | none => none
    | some U => (putT U s x).map (replP T ps.dropLast)
set_option maxRecDepth 100000 in
set_option maxHeartbeats 40000000 in
theorem pset_any (T Tx : VT) (x y X Y : Value) (ps : List PStep) (v : Value) (w : World) (hT : HV w T x y) (hm : szT T ≤ 1000000) (hX : HV w Tx X Y) (hmx : szT Tx ≤ 1000000) (hp : InP w ps v) (hpl : ps.length ≤ 1000000) :
    Calls Tryz.prog 14 #[vv T x y, v, vv Tx X Y] w fun e w' => ∃ R X' Y', e = .returned (.tuple #[vv R X' Y', .int .i64 (eN (setP T ps Tx))]) ∧ R = (setP T ps Tx).getD zeroT ∧ HS w' (fun k => w.heap.size ≤ k ∧ k < w'.heap.size) R X' Y' ∧ Below w.heap.size w w' := by
  have HC : Hid (∀ t : VT, szT t ≤ 1000000 → CopyOk t) := fun t h => vcopy_any (szT t) t (Nat.le_refl _) h
  obtain ⟨o1, n1, c1, o2, n2, c2, rfl, rfl⟩ := hv_slices hT
  obtain ⟨ox, nx1, cx, oy, ny, cy, rfl, rfl⟩ := hv_slices hX
  obtain ⟨op, cp, rfl⟩ : ∃ o c, v = .slice o ps.length c := by obtain ⟨a, ⟨o, c, e, -⟩, -⟩ := hp; exact ⟨o, c, e⟩
  have HP := hid hp
  have hcp : ps.length ≤ cp := by obtain ⟨a, ⟨o, c, e, h1, -⟩, -⟩ := hp; injection e with e1 e2 e3; omega
  have HZ := hid (Row.new (((w.alloc (.cells #[.int .i64 T.kd, .int .i64 T.nm, .string T.st, .slice o1 n1 c1, .slice o2 n2 c2] 31)).alloc (.cells #[.int .i64 Tx.kd, .int .i64 Tx.nm, .string Tx.st, .slice ox nx1 cx, .slice oy ny cy] 31))) #[.int .i64 0, .int .i64 0, .string ⟨#[]⟩, .slice none 0 0, .slice none 0 0] 31)
  have HCP := hid (HC.out T hm _ _ (((w.alloc (.cells #[.int .i64 T.kd, .int .i64 T.nm, .string T.st, .slice o1 n1 c1, .slice o2 n2 c2] 31)).alloc (.cells #[.int .i64 Tx.kd, .int .i64 Tx.nm, .string Tx.st, .slice ox nx1 cx, .slice oy ny cy] 31)).alloc (.cells #[.int .i64 0, .int .i64 0, .string ⟨#[]⟩, .slice none 0 0, .slice none 0 0] 31)) (hT.onto (valloc_bel (valloc_bel (valloc_bel (Below.refl _ _) _) _) _)))
  have HCX := hid (fun (X9 : World) (h9 : Below w.heap.size w X9) => HC.out Tx hmx _ _ X9 (hX.onto h9))
  have hxb : ∀ o u, [Value.int .i64 Tx.kd, .int .i64 Tx.nm, .string Tx.st, .slice ox nx1 cx, .slice oy ny cy][o]? = some u → (((w.alloc (.cells #[.int .i64 T.kd, .int .i64 T.nm, .string T.st, .slice o1 n1 c1, .slice o2 n2 c2] 31)).alloc (.cells #[.int .i64 Tx.kd, .int .i64 Tx.nm, .string Tx.st, .slice ox nx1 cx, .slice oy ny cy] 31)).alloc (.cells #[.int .i64 0, .int .i64 0, .string ⟨#[]⟩, .slice none 0 0, .slice none 0 0] 31)).cell? ⟨w.heap.size + 1, o, none⟩ = some u := fun o u hu => by
    have h1 := new_cells (w.alloc (.cells #[.int .i64 T.kd, .int .i64 T.nm, .string T.st, .slice o1 n1 c1, .slice o2 n2 c2] 31)) [Value.int .i64 Tx.kd, .int .i64 Tx.nm, .string Tx.st, .slice ox nx1 cx, .slice oy ny cy] 31 o u hu
    rw [World.size_alloc, add_at] at h1
    exact keepCell (valloc_bel (Below.refl _ _) _) h1
  have HXB := hid hxb
  simp only [vv] at HCP HCX ⊢
  clear hT HC hp hX hxb
  rcases List.eq_nil_or_concat ps with rfl | ⟨qs, s, rfl⟩
  · have CX := hid (HCX.out (((w.alloc (.cells #[.int .i64 T.kd, .int .i64 T.nm, .string T.st, .slice o1 n1 c1, .slice o2 n2 c2] 31)).alloc (.cells #[.int .i64 Tx.kd, .int .i64 Tx.nm, .string Tx.st, .slice ox nx1 cx, .slice oy ny cy] 31)).alloc (.cells #[.int .i64 0, .int .i64 0, .string ⟨#[]⟩, .slice none 0 0, .slice none 0 0] 31)) (valloc_bel (valloc_bel (valloc_bel (Below.refl _ _) _) _) _))
    clear HCP HP HCX HXB
    simp only [List.length_nil] at *
    go_enter Tryz.func14, Tryz.ntmps14
    go_wp2_with fail
    go_at_call 38
    refine CX.out.mono ?_
    rintro e w3 ⟨X3, Y3, rfl, hf3, hb3⟩
    obtain ⟨p1, m1, k1, p2, m2, k2, rfl, rfl⟩ := hv_slices hf3.hv
    dsimp only
    have R3 := hid (HZ.out.onto (hb3.block _ (by simp)))
    rw [World.size_alloc, World.size_alloc] at R3
    have HB3 := hid ((valloc_bel (valloc_bel (valloc_bel (Below.refl _ w) _) _) _).trans (hb3.mono (show w.heap.size ≤ _ by simp; omega)))
    have hs3 : w.heap.size + 3 ≤ w3.heap.size := by have := hb3.size; simp at this; omega
    have HF3 := hid hf3
    clear hf3 hb3 CX HZ
    obtain ⟨u0, e0⟩ := R3.out.cell (o := 0) (by decide)
    obtain ⟨u1, e1⟩ := R3.out.cell (o := 1) (by decide)
    obtain ⟨u2, e2⟩ := R3.out.cell (o := 2) (by decide)
    obtain ⟨u3, e3⟩ := R3.out.cell (o := 3) (by decide)
    obtain ⟨u4, e4⟩ := R3.out.cell (o := 4) (by decide)
    have z0 := R3.out.frozen
    go_wp2_with fail
    refine bodyPost_ret (v := .tuple #[vv Tx (.slice p1 m1 k1) (.slice p2 m2 k2), .int .i64 0]) (by simp [results, Tryz.results14, go_sem, vv, e0, e1, e2, e3, e4]) rfl ⟨Tx, .slice p1 m1 k1, .slice p2 m2 k2, rfl, rfl, ?_, ?_⟩
    · refine HF3.out.hs.onto (fun k hk => ?_) (fun k hk => ?_)
      · exact put5_heap _ _ _ _ _ _ _ _ _ (by simp at hk; omega)
      · simp at hk ⊢; omega
    · exact vset_bel (vset_bel (vset_bel (vset_bel (vset_bel HB3.out (by simp; omega)) (by simp; omega)) (by simp; omega)) (by simp; omega)) (by simp; omega)
  · simp only [List.concat_eq_append, List.length_append, List.length_singleton] at *
    go_enter Tryz.func14, Tryz.ntmps14
    go_wp2_with fail
    go_at_call 38
    refine HCP.out.mono ?_
    rintro e w3 ⟨X3, Y3, rfl, hf3, hb3⟩
    obtain ⟨p1, m1, k1, p2, m2, k2, rfl, rfl⟩ := hv_slices hf3.hv
    dsimp only
    have e2 : (((w.alloc (.cells #[.int .i64 T.kd, .int .i64 T.nm, .string T.st, .slice o1 n1 c1, .slice o2 n2 c2] 31)).alloc (.cells #[.int .i64 Tx.kd, .int .i64 Tx.nm, .string Tx.st, .slice ox nx1 cx, .slice oy ny cy] 31)).alloc (.cells #[.int .i64 0, .int .i64 0, .string ⟨#[]⟩, .slice none 0 0, .slice none 0 0] 31)).heap.size = w.heap.size + 3 := by simp
    have X3 := hid (fun o u hu => keepCell (hb3) (HXB.out o u hu))
    have R3 := HZ.out.onto (hb3.block _ (by rw [e2]; simp))
    rw [World.size_alloc, World.size_alloc] at R3
    rw [e2] at hf3 hb3
    have HB3 := hid ((valloc_bel (valloc_bel (valloc_bel (Below.refl _ w) _) _) _).trans (hb3.mono (show w.heap.size ≤ w.heap.size + 3 by omega)))
    have hs3 : w.heap.size + 3 ≤ w3.heap.size := by have := hb3.size; rw [e2] at this; exact this
    obtain ⟨hn4, hz4⟩ := bx_new hf3.hv 31
    have hb4 : Below w3.heap.size w3 (w3.alloc (.cells #[.int .i64 T.kd, .int .i64 T.nm, .string T.st, .slice p1 m1 k1, .slice p2 m2 k2] 31)) := valloc_bel (Below.refl _ _) _
    have hole0 : Hole (w3.alloc (.cells #[.int .i64 T.kd, .int .i64 T.nm, .string T.st, .slice p1 m1 k1, .slice p2 m2 k2] 31)) (w.heap.size + 3) w3.heap.size ⟨w3.heap.size, 0, none⟩ T [] ⟨w3.heap.size, 0, none⟩ T (.slice p1 m1 k1) (.slice p2 m2 k2) (w.heap.size + 3) w3.heap.size :=
      Hole.root hn4 (hf3.onto (fun k h1 h2 => hb4.block k h2)) (by simp) rfl (fun o => (Row.new w3 _ _).frozen o)
    have hB0 : ¬ (w.heap.size + 3 ≤ w3.heap.size ∧ w3.heap.size < w3.heap.size) := by omega
    have hpq : InP w qs (.slice op qs.length cp) := by
      have := inp_take HP.out (m := qs.length) (by omega)
      rwa [List.take_left] at this
    have CF := hid (find_of (QH _ (w.heap.size + 3) w3.heap.size ⟨w3.heap.size, 0, none⟩ T) _ (QH.desc _ _ _ _ _ hB0) ⟨w3.heap.size, 0, none⟩ T _ _ ⟨⟨_, _, hole0⟩, hm⟩ qs (.slice op qs.length cp) (hpq.onto ((HB3.out.trans (hb4.mono (by omega))))))
    have HB4 := hid (HB3.out.trans (hb4.mono (show w.heap.size ≤ w3.heap.size by omega)))
    have R4 := hid (R3.onto (hb4.block _ (by omega)))
    have X4 := hid (fun o u hu => keepCell hb4 (X3.out o u hu))
    clear X3 HXB
    obtain ⟨pa, ⟨_, _, hse, -, -, hsp⟩, hsc⟩ := HP.out
    injection hse with hse1 hse2 hse3
    subst hse1
    obtain rfl := hsp (by simp)
    obtain ⟨s0, s1, s2, hsk⟩ := hsc qs.length s (by simp)
    have HSK := hid hsk
    clear hsk
    have HS0 : Hid (∀ X, Below w.heap.size w X → X.cell? (pa.add (qs.length * 3)) = some (.string s.key) ∧ X.cell? ⟨(pa.add (qs.length * 3)).block, (pa.add (qs.length * 3)).off + 1, none⟩ = some (.int .i64 s.at_) ∧ X.cell? ⟨(pa.add (qs.length * 3)).block, (pa.add (qs.length * 3)).off + 2, none⟩ = some (.bool s.place)) := fun X hX => ⟨keepCell hX s0, keepCell hX s1, keepCell hX s2⟩
    have hs4 : (w3.alloc (.cells #[.int .i64 T.kd, .int .i64 T.nm, .string T.st, .slice p1 m1 k1, .slice p2 m2 k2] 31)).heap.size = w3.heap.size + 1 := World.size_alloc _ _
    have HS4 := hid hs4
    clear hsc hsp s0 s1 s2 hole0 hpq hn4 hz4 hb4 hf3 hb3 R3 HZ HP HCP hs4 e2 hse2 hse3
    have hwr : IntKind.i64.wrap (qs.length : Int) = qs.length := by rw [IntKind.wrap_i64]; omega
    have hneq : ((qs.length : Int) + 1 == 0) = false := by simp; omega
    go_wp2_with fail
    go_at_call 37
    refine CF.out.mono ?_
    rintro e w5 ⟨hc, hb5⟩
    have hs4 := HS4.out
    have HB5 := hid (HB4.out.trans (hb5.mono (by rw [hs4]; omega)))
    have R5 := hid (R4.out.onto (hb5.block _ (by rw [hs4]; omega)))
    have X5 := hid (fun o u hu => keepCell hb5 (X4.out o u hu))
    clear X4
    have hs5 := hb5.size
    rw [hs4] at hs5
    have hb4w : w3.heap.size < (w3.alloc (.cells #[.int .i64 T.kd, .int .i64 T.nm, .string T.st, .slice p1 m1 k1, .slice p2 m2 k2] 31)).heap.size := by rw [hs4]; omega
    have hb4v : w3.heap.size ≤ (w3.alloc (.cells #[.int .i64 T.kd, .int .i64 T.nm, .string T.st, .slice p1 m1 k1, .slice p2 m2 k2] 31)).heap.size := by rw [hs4]; omega
    clear hs4 HS4
    rcases hc with ⟨hg, rfl⟩ | ⟨a, U, x', y', ⟨⟨la, ha, hh⟩, hmU⟩, hg, rfl⟩
    · clear hb5 CF hb4w hb4v
      obtain ⟨u0, e0⟩ := R5.out.cell (o := 0) (by decide)
      obtain ⟨u1, e1⟩ := R5.out.cell (o := 1) (by decide)
      obtain ⟨u2, e2⟩ := R5.out.cell (o := 2) (by decide)
      obtain ⟨u3, e3⟩ := R5.out.cell (o := 3) (by decide)
      obtain ⟨u4, e4⟩ := R5.out.cell (o := 4) (by decide)
      have z0 := R5.out.frozen
      have HD := hid (show setP T (qs ++ [s]) Tx = none by simp [setP, hg])
      clear hg
      go_wp2_with fail
      go_region
      go_wp2_with fail
      all_goals refine bodyPost_ret (v := .tuple #[vv zeroT (.slice none 0 0) (.slice none 0 0), .int .i64 9]) (by simp [results, Tryz.results14, go_sem, vv, zeroT, VT.kd, VT.nm, VT.st, e0, e1, e2, e3, e4]) rfl ⟨zeroT, .slice none 0 0, .slice none 0 0, ?_, ?_, (hf_zero _ _ _ (by simp; omega)).hs, ?_⟩
      · rw [HD.out]; rfl
      · rw [HD.out]; rfl
      · first
          | exact put5_bel HB5.out.drew (by omega)
          | exact (put5_bel HB5.out (by omega)).drew
    · have hh5 := hh.onto (show w.heap.size + 3 ≤ w3.heap.size from hs3) hb4w hb4v hb5
      have CP := hid (fun (W : World) (hW : Below w5.heap.size w5 W) (w6 : World) (hb6 : Below W.heap.size W w6) (X3 Y3 : Value) (hf6 : HF w6 W.heap.size w6.heap.size Tx X3 Y3) => by
        have hw1 := hW.size
        have hw2 := hb6.size
        exact put_any (hh5.onto (show w.heap.size + 3 ≤ w3.heap.size from hs3) (show w3.heap.size < w5.heap.size by omega) (by omega) (vonto hW hb6)) hB0 hs3 (show w3.heap.size < w6.heap.size by omega) (by omega) hmU s (HSK.out) hf6.hs (fun k hk => ⟨by omega, hk.2, by omega, by show k ≠ w3.heap.size; omega⟩))
      obtain ⟨s0, s1, s2⟩ := HS0.out w5 HB5.out
      have v0 := X5.out 0 _ rfl
      have v1 := X5.out 1 _ rfl
      have v2 := X5.out 2 _ rfl
      have v3 := X5.out 3 _ rfl
      have v4 := X5.out 4 _ rfl
      have HG := hid hg
      clear hh hh5 hb5 CF hg hb4w hb4v X5
      obtain ⟨key, at_, pl⟩ := s
      simp only [pv, vv] at CP
      simp only at s0 s1 s2
      go_wp2_with fail
      go_region_with (first
        | (go_at_call 38; go_must (refine (HCX.out _ HB5.out.drew).mono ?_; rintro e w6 ⟨X3, Y3, rfl, hf6, hb6⟩; obtain ⟨p3, m3, k3, p4, m4, k4, rfl, rfl⟩ := hv_slices hf6.hv; have CQ := hid (CP.out _ (Below.refl w5.heap.size w5).drew w6 hb6 _ _ hf6); have HB6 := hid (vonto HB5.out.drew hb6); have R6 := hid (R5.out.onto (hb6.block _ (by show _ < w5.heap.size; omega))); have hs6 : w5.heap.size ≤ w6.heap.size := hb6.size; have s0' := keepCell hb6 s0; have s1' := keepCell hb6 s1; have s2' := keepCell hb6 s2; clear hf6 hb6))
        | (go_at_call 39; go_must (refine CQ.out.mono ?_; rintro e w7 ⟨rfl, hb7, hc7⟩)))
      all_goals
        have HB7 := hid (HB6.out.trans (hb7.mono (show w.heap.size ≤ w.heap.size + 3 by omega)))
        have R7 := hid (R6.out.onto (hb7.block _ (by omega)))
        have hs7 := hb7.size
        obtain ⟨u0, e0⟩ := R7.out.cell (o := 0) (by decide)
        obtain ⟨u1, e1⟩ := R7.out.cell (o := 1) (by decide)
        obtain ⟨u2, e2⟩ := R7.out.cell (o := 2) (by decide)
        obtain ⟨u3, e3⟩ := R7.out.cell (o := 3) (by decide)
        obtain ⟨u4, e4⟩ := R7.out.cell (o := 4) (by decide)
        have z0 := R7.out.frozen
        rcases hc7 with hix | ⟨R, X', Y', hix, hn7, hs9⟩
        · have HD := hid (show setP T (qs ++ [⟨key, at_, pl⟩]) Tx = none by simp [setP, HG.out, hix])
          rw [hix]
          simp only [Option.isSome_none]
          clear hb7 CP CQ HCX hix HG s0 s1 s2 s0' s1' s2' v0 v1 v2 v3 v4
          go_wp2_with fail
          refine bodyPost_ret (v := .tuple #[vv zeroT (.slice none 0 0) (.slice none 0 0), .int .i64 9]) (by simp [results, Tryz.results14, go_sem, vv, zeroT, VT.kd, VT.nm, VT.st, e0, e1, e2, e3, e4]) rfl ⟨zeroT, .slice none 0 0, .slice none 0 0, ?_, ?_, (hf_zero _ _ _ (by simp; omega)).hs, ?_⟩
          · rw [HD.out]; rfl
          · rw [HD.out]; rfl
          · first
              | exact put5_bel HB7.out (by omega)
              | exact put5_bel HB7.out.drew (by omega)
        · have HD := hid (show setP T (qs ++ [⟨key, at_, pl⟩]) Tx = some (replP T qs R) by simp [setP, HG.out, hix])
          rw [hix]
          simp only [Option.isSome_some]
          generalize replP T qs R = R9 at *
          obtain ⟨q1, l1, j1, q2, l2, j2, rfl, rfl⟩ := hv_slices hs9.hv
          obtain ⟨d0, d1, d2, d3, d4⟩ := hn7
          simp only [Nat.zero_add] at d1 d2 d3 d4
          have HS9 := hid hs9
          clear hb7 CP CQ HCX hix HG s0 s1 s2 s0' s1' s2' v0 v1 v2 v3 v4 hs9
          go_wp2_with fail
          refine bodyPost_ret (v := .tuple #[vv R9 (.slice q1 l1 j1) (.slice q2 l2 j2), .int .i64 0]) (by simp [results, Tryz.results14, go_sem, vv, e0, e1, e2, e3, e4]) rfl ⟨R9, .slice q1 l1 j1, .slice q2 l2 j2, ?_, ?_, ?_, ?_⟩
          · rw [HD.out]; rfl
          · rw [HD.out]; rfl
          · refine HS9.out.onto (fun k hk => ?_) (fun k hk => ?_)
            · exact put5_heap _ _ _ _ _ _ _ _ _ (by omega)
            · simp; omega
          · first
              | exact put5_bel HB7.out (by omega)
              | exact put5_bel HB7.out.drew (by omega)
end Go.Proofs.YtjcejjejlekelaaGreatDoor
