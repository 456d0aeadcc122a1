import Derived.Test.YtjbccmnmcjmooaaDoorCpJ
/- CprintBack. -/
namespace Go.Proofs.YtjbccmnmcjmooaaDoor
open Go.RowKit

theorem pbox4 (w : World) (a b c d : Value) : (w.alloc (.cells #[a, b, c, d] 30)).cell? ⟨w.heap.size, 0, none⟩ = some a := by
  have h := new_cells w [a, b, c, d] 30
  have a0 := h 0 _ rfl
  rw [add_at] at a0
  exact a0
set_option maxRecDepth 100000 in
set_option maxHeartbeats 4000000 in
theorem Tryd.cprintBack_walk (rows : List (List ByteArray)) (v : Value) (w : World) (hg : GlobC w) (h : InR w rows v) :
    Calls Tryd.prog 5 #[v] w fun e w' => e = .returned (.bool true) ∧ Below w.heap.size w w' := by
  have CA := hid (awake14 w hg)
  have HG := hid hg
  have HI := hid h
  have CG := hid (fun X (hX : Below w.heap.size w X) => great_any rows v X (h.onto hX))
  obtain ⟨a, ⟨o, cap, rfl, hc1, hc2, ho⟩, hcell⟩ := h
  unfold maxLen at hc2
  clear hg hcell ho
  go_enter Tryd.func5, Tryd.ntmps5
  go_wp2_with fail
  go_at_call 7
  refine CA.out.mono ?_
  rintro e w0 ⟨rfl, hb0⟩
  have HB0 := hid hb0
  have CG1 := hid (CG.out w0 hb0)
  clear hb0 CA CG
  go_wp2_with fail
  go_at_call 11
  refine CG1.out.mono ?_
  rintro e w1 ⟨b, rfl, hgr, hw1⟩
  subst hw1
  clear CG1
  cases b with
  | true =>
    go_wp2_with fail
    go_ret
    exact ⟨rfl, HB0.out⟩
  | false =>
  have HBD := hid hgr.bnd
  have CM := hid (pmay_any rows _ w1 (HG.out.on HB0.out) (HI.out.onto HB0.out) HBD.out)
  have CP := hid (fun X (hX : Below w.heap.size w X) => pprint_any rows _ X (HG.out.on hX) (HI.out.onto hX) HBD.out)
  have CR := hid (fun (hM : mayB (rb rows) = true) X => (show Calls Tryd.prog 15 #[.string (mkS (prnB (rb rows)))] X (Tq (mkS (prnB (rb rows))) X (.ok (rb rows))) from by
    have hz : (mkS (prnB (rb rows))).size ≤ 65536 := by
      rw [mkS_size]
      unfold mayB at hM
      rw [Bool.and_eq_true, decide_eq_true_iff] at hM
      exact hM.2
    have := crows_any (mkS (prnB (rb rows))) X (by omega)
    rw [mkS_list, csv_back _ hM] at this
    exact this))
  clear hgr
  obtain ⟨M, hM⟩ : ∃ M, mayB (rb rows) = M := ⟨_, rfl⟩
  rw [hM] at CM CR
  generalize mkS (prnB (rb rows)) = P at CP CR
  clear hM
  go_wp2_with fail
  go_at_call 8
  refine CM.out.mono ?_
  rintro e w2 ⟨rfl, hb2⟩
  have HB2 := hid (vonto HB0.out hb2)
  clear hb2 CM HB0
  cases M with
  | false =>
    go_wp2_with fail
    go_ret
    exact ⟨rfl, HB2.out⟩
  | true =>
  have C1 := hid (CP.out w2 HB2.out)
  have C2 := hid (CR.out rfl)
  clear CP CR
  go_wp2_with fail
  go_at_call 9
  refine C1.out.mono ?_
  rintro e w3 ⟨rfl, hb3⟩
  have HB3 := hid (vonto HB2.out hb3)
  clear hb3 C1 HB2
  go_wp2_with fail
  go_at_call 15
  refine (C2.out _).mono ?_
  rintro e w4 ⟨o4, n4, c4, E, rfl, hE, hW4, hb4⟩
  have HB4 := hid (vonto HB3.out hb4)
  have HW4 := hid (show CRw w4 rows (.slice o4 n4 c4) by have := cr_own hW4; rw [rb_back rows E hE] at this; exact this)
  clear hb4 C2 HB3 hW4 hE
  go_upto_region 6 with fail
  refine cwp_gen ?_
  intro W hW
  have f0 := pbox4 w4 (.int .i64 0) (.int .i64 0) (.int .i64 0) (.int .i64 0)
  have hbW : Below w4.heap.size w4 W := by rw [hW]; exact valloc_bel (Below.refl _ _) _
  rw [← hW] at f0
  have HBW := hid (vonto HB4.out hbW)
  have CS := hid (prows_same rows _ _ W HBD.out (HW4.out.onto hbW) (HI.out.onto HBW.out).cr)
  clear hW hbW HB4 HW4
  go_wp2_with fail
  go_at_call 16
  refine CS.out.mono ?_
  rintro e w5 ⟨rfl, hb5⟩
  have HB5 := hid (vonto HBW.out hb5)
  clear hb5 CS
  go_wp2_with fail
  go_ret
  exact ⟨rfl, HB5.out⟩
end Go.Proofs.YtjbccmnmcjmooaaDoor
