/- value.Get, walked. -/
import Derived.Test.YtnpojefcibfgkabGreatDoorVMake
namespace Go.Proofs.YtnpojefcibfgkabGreatDoor
open Go.RowKit

theorem hf_zero (w : World) (lo hi : Nat) (h : lo ≤ hi) : HF w lo hi zeroT (.slice none 0 0) (.slice none 0 0) :=
  hf_of (m := lo) list_wf.2.2 list_wf.2.2 (by decide) (Nat.le_refl _) h (lf_nil _ _ _) (mf_nil _ _ _)
theorem two_new (w : World) (c d : Array Value) (t : TypeId) : Row ((w.alloc (.cells c t)).alloc (.cells d t)) (w.heap.size + 1) t d.size := by
  have := Row.new (w.alloc (.cells c t)) d t
  rw [World.size_alloc] at this
  exact this
set_option maxRecDepth 100000 in
set_option maxHeartbeats 1000000 in
theorem vget_any (T : VT) (x y : Value) (key : ByteArray) (w : World) (hT : HV w T x y) (hm : szT T ≤ 1000000) :
    Calls Tryz.prog 16 #[vv T x y, .string key] w fun e w' => ∃ R X Y, e = .returned (.tuple #[vv R X Y, .bool (getO T key).isSome]) ∧ R = (getO T key).getD zeroT ∧ HF w' w.heap.size w'.heap.size R X Y ∧ Below w.heap.size w w' := by
  have HC : Hid (∀ (i : Nat) (t : VT), T.vs[i]? = some t → CopyOk t) := fun i t h => vcopy_any (szT t) t (Nat.le_refl _) (by have := szT_vs T i t h; omega)
  cases hT with
  | mk a b f g p q hk hn hs hL hM hK cL cK cM rL rM =>
  rename_i k n s L K V
  change Calls _ _ #[.agg #[.int .i64 k, .int .i64 n, .string s, _, _], _] _ _
  obtain ⟨oL, capL, rfl, hL1, hL2, hL3⟩ := hL
  obtain ⟨oM, capM, rfl, hM1, hM2, hM3⟩ := hM
  unfold maxLen at hL2 hM2
  by_cases h6 : k = 6
  · subst h6
    have HG := hid (show getO (.mk 6 n s L K V) key = findK key K V by unfold getO; rfl)
    have HN2 := hid (fun c => two_new w c #[.int .i64 0, .int .i64 0, .string ⟨#[]⟩, .slice none 0 0, .slice none 0 0] 26)
    go_enter Tryz.func16, Tryz.ntmps16
    go_wp2_with fail
    go_loopw [15] (fun i wr => ∃ j : Nat, i = .int .i64 j ∧ j ≤ V.length ∧ Hid (∀ (i : Nat) (c : ByteArray), i < j → K[i]? = some c → ¬ c.data.toList = key.data.toList) ∧ Below w.heap.size w wr ∧ Hid (Row wr (w.heap.size + 1) 26 5)) (fun i _ => V.length - (intOf i).toNat)
    case atStart => exact ⟨0, rfl, Nat.zero_le _, hid (fun i c h => absurd h (Nat.not_lt_zero _)), valloc_bel (valloc_bel (Below.refl _ _) _) _, HN2.out _⟩
    case round =>
      obtain ⟨j, rfl, hj, HJ, hbw, HRw⟩ := hrel
      by_cases hlt : j < V.length
      · obtain ⟨t, ht⟩ : ∃ t, V[j]? = some t := ⟨V[j], List.getElem?_eq_getElem hlt⟩
        obtain ⟨c, hc⟩ : ∃ c, K[j]? = some c := ⟨K[j], List.getElem?_eq_getElem (by omega)⟩
        obtain rfl := hM3 (by omega)
        have hnode := (cM j t ht).onto hbw
        simp only [Node, nx] at hnode
        obtain ⟨d0, d1, d2, d3, d4⟩ := hnode
        have k0 := keepCell hbw (cK j c hc).1
        obtain ⟨o1, n1, c1, o2, n2, c2, hp, hq⟩ := hv_slices (rM j t ht)
        have HR := hid ((rM j t ht).onto hbw)
        rw [hp, hq] at HR
        rw [hp] at d3
        rw [hq] at d4
        clear hp hq
        by_cases he : c.data.toList = key.data.toList
        · have te := txt_is c key he
          have HF0 := hid (findK_some key K V j c t hc ht he HJ.out)
          clear he
          have HSTEP : Hid (∀ X : World, Below wr.heap.size wr X → Calls Tryz.prog 20 #[vv t (.slice o1 n1 c1) (.slice o2 n2 c2)] X fun e w1 => ∃ X' Y', e = .returned (vv t X' Y') ∧ HF w1 wr.heap.size w1.heap.size t X' Y' ∧ Below wr.heap.size wr w1) :=
            fun X hX => (HC.out j t ht _ _ X (HR.out.onto hX)).mono fun e w1 ⟨X', Y', he, hf, hb⟩ => ⟨X', Y', he, hf.wide hX.size (Nat.le_refl _), vonto hX hb⟩
          simp only [vv] at HSTEP
          have hbs : w.heap.size + 1 < wr.heap.size := HRw.out.lt
          go_wp2_with fail
          go_at_call 20
          refine (HSTEP.out _ ?_).mono ?_
          · repeat (first | exact Below.refl _ _ | apply valloc_bel | (refine vset_bel ?_ (by simp)))
          rintro e w1 ⟨X, Y, rfl, hf1, hb1⟩
          obtain ⟨p1, m1, k1, p2, m2, k2, rfl, rfl⟩ := hv_slices hf1.hv
          have HF1 := hid hf1
          have R0 := hid (HRw.out.onto (hb1.block _ hbs))
          have HB1 := hid (vonto hbw hb1)
          have hsz1 := hb1.size
          clear hf1 hb1
          obtain ⟨u0, e0⟩ := R0.out.cell (o := 0) (by decide)
          obtain ⟨u1, e1⟩ := R0.out.cell (o := 1) (by decide)
          obtain ⟨u2, e2⟩ := R0.out.cell (o := 2) (by decide)
          obtain ⟨u3, e3⟩ := R0.out.cell (o := 3) (by decide)
          obtain ⟨u4, e4⟩ := R0.out.cell (o := 4) (by decide)
          have z0 := R0.out.frozen
          go_wp2_with fail
          refine bodyPost_ret (v := .tuple #[vv t (.slice p1 m1 k1) (.slice p2 m2 k2), .bool true]) (by simp [results, Tryz.results16, go_sem, vv, e0, e1, e2, e3, e4]) rfl ⟨t, .slice p1 m1 k1, .slice p2 m2 k2, ?_, ?_, ?_, ?_⟩
          · rw [HG.out, HF0.out]; rfl
          · rw [HG.out, HF0.out]; rfl
          · change HF (put5 w1 (w.heap.size + 1) 0 (.int .i64 t.kd) (.int .i64 t.nm) (.string t.st) (.slice p1 m1 k1) (.slice p2 m2 k2)) w.heap.size (put5 w1 (w.heap.size + 1) 0 (.int .i64 t.kd) (.int .i64 t.nm) (.string t.st) (.slice p1 m1 k1) (.slice p2 m2 k2)).heap.size _ _ _
            rw [put5_size]
            exact (HF1.out.onto (fun k g1 g2 => put5_heap _ _ _ _ _ _ _ _ _ (by omega))).wide (by omega) (Nat.le_refl _)
          · exact vset_bel (vset_bel (vset_bel (vset_bel (vset_bel HB1.out (by simp)) (by simp)) (by simp)) (by simp)) (by simp)
        · have te := txt_no c key he
          have HE := hid he
          clear he
          have hbs : w.heap.size + 1 < wr.heap.size := HRw.out.lt
          go_wp2_with fail
          go_roundw
          case rel => exact ⟨j + 1, val_int (by omega), hlt, hid (fun i c' hi hc' => by
            by_cases hij : i = j
            · subst hij; rw [hc] at hc'; cases hc'; exact HE.out
            · exact HJ.out i c' (by omega) hc'), valloc_bel hbw _, HRw.out.onto (Below.heap_alloc _ _ _ hbs)⟩
          case measure => simp [intOf]; omega
      · have HF0 := hid (findK_none key K V (fun i c hi => HJ.out i c (by have := (List.getElem?_eq_some_iff.1 hi).1; omega) hi))
        obtain ⟨u0, e0⟩ := HRw.out.cell (o := 0) (by decide)
        obtain ⟨u1, e1⟩ := HRw.out.cell (o := 1) (by decide)
        obtain ⟨u2, e2⟩ := HRw.out.cell (o := 2) (by decide)
        obtain ⟨u3, e3⟩ := HRw.out.cell (o := 3) (by decide)
        obtain ⟨u4, e4⟩ := HRw.out.cell (o := 4) (by decide)
        have z0 := HRw.out.frozen
        go_wp2_with fail
        refine bodyPost_ret (v := .tuple #[vv zeroT (.slice none 0 0) (.slice none 0 0), .bool false]) (by simp [results, Tryz.results16, go_sem, vv, zeroT, VT.kd, VT.nm, VT.st, e0, e1, e2, e3, e4]) rfl ⟨zeroT, .slice none 0 0, .slice none 0 0, ?_, ?_, hf_zero _ _ _ (by simp; exact hbw.size), ?_⟩
        · rw [HG.out, HF0.out]; rfl
        · rw [HG.out, HF0.out]; rfl
        · exact vset_bel (vset_bel (vset_bel (vset_bel (vset_bel hbw (by simp)) (by simp)) (by simp)) (by simp)) (by simp)
  · have HG := hid (show getO (.mk k n s L K V) key = none by unfold getO; rw [if_neg (by exact h6)])
    have t6 : (k != 6) = true := by simpa using h6
    clear h6
    go_enter Tryz.func16, Tryz.ntmps16
    go_wp2_with fail
    refine bodyPost_ret (v := .tuple #[vv zeroT (.slice none 0 0) (.slice none 0 0), .bool false]) (by simp [results, Tryz.results16, go_sem, vv, zeroT, VT.kd, VT.nm, VT.st]) rfl ⟨zeroT, .slice none 0 0, .slice none 0 0, ?_, ?_, hf_zero _ _ _ (by simp; omega), ?_⟩
    · rw [HG.out]; rfl
    · rw [HG.out]; rfl
    · repeat (first | exact Below.refl _ _ | apply valloc_bel | (refine vset_bel ?_ (by simp)))
end Go.Proofs.YtnpojefcibfgkabGreatDoor
