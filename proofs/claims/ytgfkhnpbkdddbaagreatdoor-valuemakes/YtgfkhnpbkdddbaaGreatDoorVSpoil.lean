/- spoil, walked: it changes nothing but the blocks of what it is handed. -/
import Derived.Test.YtgfkhnpbkdddbaaGreatDoorVCopyAll
import Derived.Deep.LoopGhost
namespace Go.Proofs.YtgfkhnpbkdddbaaGreatDoor
open Go.RowKit

/-- what spoil does to a tree in blocks of its own -/
def SpoilOk (t : VT) : Prop := ∀ (x y : Value) (w : World) (lo hi : Nat), HF w lo hi t x y → hi ≤ w.heap.size → Calls Tryz.prog 32 #[vv t x y] w fun e w' => e = .returned (.tuple #[]) ∧ Chg lo hi w w'
/-- a value's box is as it was -/
def Bx5 (w : World) (b : Nat) (v0 v1 v2 v3 v4 : Value) : Prop := w.cell? ⟨b, 0, none⟩ = some v0 ∧ w.cell? ⟨b, 1, none⟩ = some v1 ∧ w.cell? ⟨b, 2, none⟩ = some v2 ∧ w.cell? ⟨b, 3, none⟩ = some v3 ∧ w.cell? ⟨b, 4, none⟩ = some v4
theorem Bx5.same {w w' : World} {b : Nat} {v0 v1 v2 v3 v4 : Value} (h : Bx5 w b v0 v1 v2 v3 v4) (hb : w'.heap[b]? = w.heap[b]?) : Bx5 w' b v0 v1 v2 v3 v4 := by
  have e : ∀ o, w'.cell? ⟨b, o, none⟩ = w.cell? ⟨b, o, none⟩ := fun o => World.cell?_of_block (w := w) hb
  exact ⟨(e 0).trans h.1, (e 1).trans h.2.1, (e 2).trans h.2.2.1, (e 3).trans h.2.2.2.1, (e 4).trans h.2.2.2.2⟩
theorem node0 {w : World} {b i : Nat} {t : VT} {x y : Value} (h : Node w (Addr.add ⟨b, 0, none⟩ i) t x y) : w.cell? ⟨b, i, none⟩ = some (.int .i64 t.kd) ∧ w.cell? ⟨b, i + 1, none⟩ = some (.int .i64 t.nm) ∧ w.cell? ⟨b, i + 2, none⟩ = some (.string t.st) ∧ w.cell? ⟨b, i + 3, none⟩ = some x ∧ w.cell? ⟨b, i + 4, none⟩ = some y := by
  rw [add_at] at h; exact h
set_option maxRecDepth 100000 in
set_option maxHeartbeats 4000000 in
theorem spoil_any : ∀ (N : Nat) (t : VT), szT t ≤ N → SpoilOk t := by
  intro N
  induction N with
  | zero => intro t ht; have := szT_pos t; omega
  | succ N ih =>
  intro T hN x y w lo hi hT hhi
  have HIH := hid ih
  have HN := hid hN
  clear ih hN
  cases hT with
  | @mk _ _ k n s L K V _ _ m bL bM l r f g p q hk hn hs hL hM hK lom mhi iL iM oL oM cL cK cM rL rM =>
  obtain ⟨oo, rfl, hmL, hrL⟩ := hL
  obtain ⟨om, rfl, hmM, hrM⟩ := hM
  unfold maxLen at hmL hmM
  have HCL := hid cL; have HCK := hid cK; have HCM := hid cM; have HRL := hid rL; have HRM := hid rM
  have HIL := hid iL; have HIM := hid iM; have HOL := hid oL; have HOM := hid oM
  have HrL := hid hrL; have HrM := hid hrM
  clear cL cK cM rL rM hk hn hs iL iM oL oM hrL hrM
  simp only [vv, VT.kd, VT.nm, VT.st]
  go_enter Tryz.func32, Tryz.ntmps32
  go_wp2_with fail
  go_loopw [2] (fun i wr => ∃ j : Nat, i = .int .i64 j ∧ j ≤ L.length ∧ Hid (Chg lo hi w wr) ∧ w.heap.size < wr.heap.size ∧ Hid (Bx5 wr w.heap.size (.int .i64 k) (.int .i64 n) (.string s) (.slice oo L.length L.length) (.slice om V.length V.length)) ∧
    Hid ((0 < L.length → Row wr bL 28 (L.length * 5)) ∧ (∀ c, j * 5 ≤ c → wr.cell? ⟨bL, c, none⟩ = w.cell? ⟨bL, c, none⟩ ∨ L.length = 0) ∧ (∀ k, l j ≤ k → k < m → L.length = 0 ∨ wr.heap[k]? = w.heap[k]?) ∧ (∀ k, m ≤ k → k < hi → wr.heap[k]? = w.heap[k]?))) (fun i _ => L.length - (intOf i).toNat)
  case atStart =>
    have hn : ∀ k, k < w.heap.size → (w.alloc (.cells #[.int .i64 k, .int .i64 n, .string s, .slice oo L.length L.length, .slice om V.length V.length] 28)).heap[k]? = w.heap[k]? := fun k hk => Below.heap_alloc _ _ _ hk
    refine ⟨0, rfl, Nat.zero_le _, (Chg.refl _ _ _).alloc _, by simp, ?_, ?_⟩
    · exact ⟨by simp, by simp, by simp, by simp, by simp⟩
    · refine ⟨fun h => ?_, fun c _ => ?_, fun k _ hk => ?_, fun k _ hk => Below.heap_alloc _ _ _ (by omega)⟩
      · obtain ⟨-, c, hc, hcs⟩ := HrL.out h
        have := HIL.out h; have := HOL.out 0 _ (Nat.zero_le _) (Nat.le_refl _)
        exact ⟨c, (Below.heap_alloc _ _ _ (by omega)).trans hc, hcs⟩
      · by_cases h0 : L.length = 0
        · exact Or.inr h0
        · have := HIL.out (by omega); have := HOL.out 0 _ (Nat.zero_le _) (Nat.le_refl _)
          exact Or.inl (World.cell?_of_block (w := w) (Below.heap_alloc _ _ _ (by show bL < _; omega)))
      · exact Or.inr (Below.heap_alloc _ _ _ (by omega))
  case round =>
    obtain ⟨j, rfl, hj, HCH, hsz, HBX, HST⟩ := hrel
    obtain ⟨b0, b1, b2, b3, b4⟩ := HBX.out
    by_cases hlt : j < L.length
    · obtain ⟨t, ht⟩ : ∃ t, L[j]? = some t := ⟨L[j], List.getElem?_eq_getElem hlt⟩
      have iL := HIL.out (by omega)
      have o1 := HOL.out 0 j (Nat.zero_le _) (by omega)
      have o2 := HOL.out j (j + 1) (by omega) hlt
      have o3 := HOL.out (j + 1) _ hlt (Nat.le_refl _)
      obtain ⟨rfl, -⟩ := HrL.out (by omega)
      obtain ⟨hrow, hcell, hblk, hblm⟩ := HST.out
      have hrow := hrow (by omega)
      have hcell : ∀ c, j * 5 ≤ c → wr.cell? ⟨bL, c, none⟩ = w.cell? ⟨bL, c, none⟩ := fun c hc => (hcell c hc).resolve_right (by omega)
      have hblk : ∀ k, l j ≤ k → k < m → wr.heap[k]? = w.heap[k]? := fun k h1 h2 => (hblk k h1 h2).resolve_left (by omega)
      obtain ⟨d0, d1, d2, d3, d4⟩ := node0 (HCL.out j t ht)
      rw [← hcell _ (by omega)] at d0 d1 d2 d3 d4
      have hfT : HF wr (l j) (l (j + 1)) t (f j) (g j) := (HRL.out j t ht).onto (fun k h1 h2 => hblk k h1 (by omega))
      obtain ⟨o1', n1, c1, o2', n2, c2, hp, hq⟩ := hv_slices hfT.hv
      rw [hp, hq] at hfT
      rw [hp] at d3
      rw [hq] at d4
      have HSTEP := hid (HIH.out t (by have := szL_get L j t ht; have := HN.out; simp only [szT] at this; omega) _ _ wr _ _ hfT (by omega))
      simp only [vv] at HSTEP
      have hbs : bL < wr.heap.size := by omega
      have HR0 := hid hrow
      have HCE := hid hcell
      have HBK := hid hblk
      have HBM := hid hblm
      clear hp hq hfT hrow hcell hblk hblm HST
      go_wp2_with fail
      go_at_call 32
      refine HSTEP.out.mono ?_
      rintro e w1 ⟨rfl, hc1⟩
      have HC1 := hid hc1
      have hs1 := hc1.size
      have HB1 := hid (HBX.out.same (hc1.block _ hsz (by omega)))
      have HR1 := hid (HR0.out.onto (hc1.block _ hbs (by omega)))
      clear hc1 b0 b1 b2 b3 b4 d0 d1 d2 d3 d4
      obtain ⟨b0, b1, b2, b3, b4⟩ := HB1.out
      obtain ⟨u0, e0⟩ := HR1.out.cell (o := j * 5) (by omega)
      obtain ⟨u1, e1⟩ := HR1.out.cell (o := j * 5 + 1) (by omega)
      obtain ⟨u2, e2⟩ := HR1.out.cell (o := j * 5 + 2) (by omega)
      obtain ⟨u3, e3⟩ := HR1.out.cell (o := j * 5 + 3) (by omega)
      obtain ⟨u4, e4⟩ := HR1.out.cell (o := j * 5 + 4) (by omega)
      have z0 := HR1.out.frozen
      go_wp2_with fail
      go_roundw
      case rel =>
        refine ⟨j + 1, val_int (by omega), hlt, ?_, by simpa using (by omega : w.heap.size < w1.heap.size), ?_, ?_⟩
        · have hin : lo ≤ bL ∧ bL < hi := by omega
          exact Chg.setCell (Chg.setCell (Chg.setCell (Chg.setCell (Chg.setCell (HCH.out.trans (HC1.out.wide (by omega) (by omega))) (Or.inl hin) _) (Or.inl hin) _) (Or.inl hin) _) (Or.inl hin) _) (Or.inl hin) _
        · exact HB1.out.same (put5_heap _ _ _ _ _ _ _ _ _ (by omega))
        · refine ⟨fun _ => put5_row HR1.out _ _ _ _ _ _ _, fun c hc => Or.inl ?_, fun k h1 h2 => Or.inr ?_, fun k h1 h2 => ?_⟩
          · refine (put5_other _ _ _ _ _ _ _ _ _ (by omega)).trans ?_
            exact (HC1.out.cell hbs (by show ¬ (l j ≤ bL ∧ bL < l (j + 1)); omega)).trans (HCE.out c (by omega))
          · refine (put5_heap _ _ _ _ _ _ _ _ _ (by omega)).trans ?_
            exact (HC1.out.block k (by omega) (by omega)).trans (HBK.out k (by omega) h2)
          · refine (put5_heap _ _ _ _ _ _ _ _ _ (by omega)).trans ?_
            exact (HC1.out.block k (by omega) (by omega)).trans (HBM.out k h1 h2)
      case measure => simp [intOf]; omega
    · have HBM := hid HST.out.2.2.2
      clear HST
      go_wp2_with fail
      go_loopw [3] (fun i wr => ∃ j : Nat, i = .int .i64 j ∧ j ≤ V.length ∧ Hid (Chg lo hi w wr) ∧ w.heap.size < wr.heap.size ∧ Hid (Bx5 wr w.heap.size (.int .i64 k) (.int .i64 n) (.string s) (.slice oo L.length L.length) (.slice om V.length V.length)) ∧
        Hid ((0 < V.length → Row wr bM 42 (V.length * 6)) ∧ (∀ c, j * 6 ≤ c → wr.cell? ⟨bM, c, none⟩ = w.cell? ⟨bM, c, none⟩ ∨ V.length = 0) ∧ (∀ k, r j ≤ k → k < hi → V.length = 0 ∨ wr.heap[k]? = w.heap[k]?))) (fun i _ => V.length - (intOf i).toNat)
      case atStart =>
        refine ⟨0, rfl, Nat.zero_le _, HCH, hsz, HBX, fun h => ?_, fun c _ => ?_, fun k h1 h2 => ?_⟩
        · obtain ⟨-, c, hc, hcs⟩ := HrM.out h
          have := HIM.out h; have := HOM.out 0 _ (Nat.zero_le _) (Nat.le_refl _)
          exact ⟨c, (HBM.out _ (by omega) (by omega)).trans hc, hcs⟩
        · by_cases h0 : V.length = 0
          · exact Or.inr h0
          · have := HIM.out (by omega); have := HOM.out 0 _ (Nat.zero_le _) (Nat.le_refl _)
            exact Or.inl (World.cell?_of_block (w := w) (HBM.out bM (by omega) (by omega)))
        · by_cases h0 : V.length = 0
          · exact Or.inl h0
          · have := HIM.out (by omega)
            exact Or.inr (HBM.out k (by omega) h2)
      case round =>
        clear HBM HCH HBX b0 b1 b2 b3 b4
        obtain ⟨j, rfl, hj, HCH, hsz, HBX, HST⟩ := hrel
        obtain ⟨b0, b1, b2, b3, b4⟩ := HBX.out
        by_cases hlt : j < V.length
        · obtain ⟨t, ht⟩ : ∃ t, V[j]? = some t := ⟨V[j], List.getElem?_eq_getElem hlt⟩
          have iM := HIM.out (by omega)
          have o1 := HOM.out 0 j (Nat.zero_le _) (by omega)
          have o2 := HOM.out j (j + 1) (by omega) hlt
          have o3 := HOM.out (j + 1) _ hlt (Nat.le_refl _)
          obtain ⟨rfl, -⟩ := HrM.out (by omega)
          obtain ⟨hrow, hcell, hblk⟩ := HST.out
          have hrow := hrow (by omega)
          have hcell : ∀ c, j * 6 ≤ c → wr.cell? ⟨bM, c, none⟩ = w.cell? ⟨bM, c, none⟩ := fun c hc => (hcell c hc).resolve_right (by omega)
          have hblk : ∀ k, r j ≤ k → k < hi → wr.heap[k]? = w.heap[k]? := fun k h1 h2 => (hblk k h1 h2).resolve_left (by omega)
          have hnode := HCM.out j t ht
          rw [add_at] at hnode
          simp only [Node, nx] at hnode
          obtain ⟨d0, d1, d2, d3, d4⟩ := hnode
          rw [← hcell _ (by omega)] at d0 d1 d2 d3 d4
          have hfT : HF wr (r j) (r (j + 1)) t (p j) (q j) := (HRM.out j t ht).onto (fun k h1 h2 => hblk k h1 (by omega))
          obtain ⟨o1', n1, c1, o2', n2, c2, hp, hq⟩ := hv_slices hfT.hv
          rw [hp, hq] at hfT
          rw [hp] at d3
          rw [hq] at d4
          have HSTEP := hid (HIH.out t (by have := szL_get V j t ht; have := HN.out; simp only [szT] at this; omega) _ _ wr _ _ hfT (by omega))
          simp only [vv] at HSTEP
          have hbs : bM < wr.heap.size := by omega
          have HR0 := hid hrow
          have HCE := hid hcell
          have HBK := hid hblk
          clear hp hq hfT hrow hcell hblk HST
          go_wp2_with fail
          go_at_call 32
          refine HSTEP.out.mono ?_
          rintro e w1 ⟨rfl, hc1⟩
          have HC1 := hid hc1
          have hs1 := hc1.size
          have HB1 := hid (HBX.out.same (hc1.block _ hsz (by omega)))
          have HR1 := hid (HR0.out.onto (hc1.block _ hbs (by omega)))
          clear hc1 b0 b1 b2 b3 b4 d0 d1 d2 d3 d4
          obtain ⟨b0, b1, b2, b3, b4⟩ := HB1.out
          obtain ⟨u0, e0⟩ := HR1.out.cell (o := j * 6) (by omega)
          obtain ⟨u1, e1⟩ := HR1.out.cell (o := j * 6 + 1) (by omega)
          obtain ⟨u2, e2⟩ := HR1.out.cell (o := j * 6 + 2) (by omega)
          obtain ⟨u3, e3⟩ := HR1.out.cell (o := j * 6 + 3) (by omega)
          obtain ⟨u4, e4⟩ := HR1.out.cell (o := j * 6 + 4) (by omega)
          obtain ⟨u5, e5⟩ := HR1.out.cell (o := j * 6 + 5) (by omega)
          have z0 := HR1.out.frozen
          go_wp2_with fail
          go_roundw
          case rel =>
            refine ⟨j + 1, val_int (by omega), hlt, ?_, by simpa using (by omega : w.heap.size < w1.heap.size), ?_, ?_⟩
            · have hin : lo ≤ bM ∧ bM < hi := by omega
              exact Chg.setCell (Chg.setCell (Chg.setCell (Chg.setCell (Chg.setCell (Chg.setCell (HCH.out.trans (HC1.out.wide (by omega) (by omega))) (Or.inl hin) _) (Or.inl hin) _) (Or.inl hin) _) (Or.inl hin) _) (Or.inl hin) _) (Or.inl hin) _
            · exact HB1.out.same (put6_heap _ _ _ _ _ _ _ _ _ _ (by omega))
            · refine ⟨fun _ => put6_row HR1.out _ _ _ _ _ _ _ _, fun c hc => Or.inl ?_, fun k h1 h2 => Or.inr ?_⟩
              · refine (put6_other _ _ _ _ _ _ _ _ _ _ (by omega)).trans ?_
                exact (HC1.out.cell hbs (by show ¬ (r j ≤ bM ∧ bM < r (j + 1)); omega)).trans (HCE.out c (by omega))
              · refine (put6_heap _ _ _ _ _ _ _ _ _ _ (by omega)).trans ?_
                exact (HC1.out.block k (by omega) (by omega)).trans (HBK.out k (by omega) h2)
          case measure => simp [intOf]; omega
        · go_wp2_with fail
          refine bodyPost_end (v := .tuple #[]) (by simp [results, Tryz.results32, go_sem]) rfl ⟨rfl, HCH.out⟩
end Go.Proofs.YtgfkhnpbkdddbaaGreatDoor
