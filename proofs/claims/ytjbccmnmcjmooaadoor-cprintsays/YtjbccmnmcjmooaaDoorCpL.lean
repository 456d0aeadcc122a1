import Derived.Test.YtjbccmnmcjmooaaDoorCpJ
/- CprintSays. -/
namespace Go.Proofs.YtjbccmnmcjmooaaDoor
open Go.RowKit

set_option maxRecDepth 100000 in
set_option maxHeartbeats 4000000 in
theorem Tryd.cprintSays_walk (rows : List (List ByteArray)) (v : Value) (w : World) (hg : GlobC w) (h : InR w rows v) :
    Calls Tryd.prog 4 #[v] w fun e w' => e = .returned (.bool true) ∧ Below w.heap.size w w' := by
  have CA := hid (awake14 w hg)
  have HG := hid hg
  have HI := hid h
  have CG := hid (fun X (hX : Below w.heap.size w X) => great_any rows v X (h.onto hX))
  obtain ⟨a, ⟨o, cap, rfl, hc1, hc2, ho⟩, hcell⟩ := h
  unfold maxLen at hc2
  have HCE := hid hcell
  clear hg hcell
  go_enter Tryd.func4, Tryd.ntmps4
  go_wp2_with fail
  go_at_call 7
  refine CA.out.mono ?_
  rintro e w0 ⟨rfl, hb0⟩
  have HB0 := hid hb0
  have CG1 := hid (CG.out w0 hb0)
  clear hb0 CA CG
  go_wp2_with fail
  go_at_call 11
  refine CG1.out.mono ?_
  rintro e w1 ⟨b, rfl, hgr, hw1⟩
  subst hw1
  clear CG1
  cases b with
  | true =>
    go_wp2_with fail
    go_ret
    exact ⟨rfl, HB0.out⟩
  | false =>
  have HBD := hid hgr.bnd
  have hl := hgr.bnd.1
  have CP := hid (fun X (hX : Below w.heap.size w X) => pprint_any rows _ X (HG.out.on hX) (HI.out.onto hX) HBD.out)
  have CM := hid (fun X (hX : Below w.heap.size w X) => pmay_any rows _ X (HG.out.on hX) (HI.out.onto hX) HBD.out)
  have DP := hid (fun X (hX : Below w.heap.size w X) => dprint_any rows _ X (HI.out.onto hX) HBD.out)
  have DM := hid (fun X (hX : Below w.heap.size w X) => dmay_any rows _ X (HI.out.onto hX) HBD.out)
  clear hgr HI
  go_wp2_with fail
  go_loopw [3] (fun i wr => ∃ j : Nat, j ≤ rows.length ∧ i = .int .i64 j ∧ Hid (Below w.heap.size w wr)) (fun i _ => rows.length - (intOf i).toNat)
  case atStart => exact ⟨0, Nat.zero_le _, rfl, HB0.out⟩
  case round =>
    obtain ⟨j, hj, rfl, HB⟩ := hrel
    by_cases hlt : j < rows.length
    · obtain ⟨ks, hks⟩ : ∃ ks, rows[j]? = some ks := ⟨rows[j], List.getElem?_eq_getElem hlt⟩
      obtain rfl := ho (by omega)
      obtain ⟨u, hu, hin⟩ := HCE.out j ks hks
      have hmem := List.mem_of_getElem? hks
      obtain ⟨a2, ⟨o2, cap2, rfl, hd1, hd2, ho2⟩, hcell2⟩ := hin
      unfold maxLen at hd2
      have HU := hid hu
      have HC2 := hid hcell2
      have hl1 : ks.length ≤ 1000 := (HBD.out.2 ks hmem).1
      have HS := hid (HBD.out.2 ks hmem).2
      clear hu hcell2 hks hmem
      have d0 := keepCell HB.out HU.out
      go_wp2_with fail
      go_loopw [4] (fun i wr => ∃ k : Nat, k ≤ ks.length ∧ i = .int .i64 k ∧ Hid (Below w.heap.size w wr)) (fun i _ => ks.length - (intOf i).toNat)
      case atStart => exact ⟨0, Nat.zero_le _, rfl, HB.out⟩
      case round =>
        obtain ⟨k, hk, rfl, HB2⟩ := hrel
        clear d0
        have d0 := keepCell HB2.out HU.out
        by_cases hkl : k < ks.length
        · obtain ⟨c, hc⟩ : ∃ c, ks[k]? = some c := ⟨ks[k], List.getElem?_eq_getElem hkl⟩
          obtain rfl := ho2 (by omega)
          have d1 := keepCell HB2.out (HC2.out k c hc).1
          have hcz := HS.out c (List.mem_of_getElem? hc)
          clear hc
          have CF := hid (fun (b : Bool) (X : World) (hX : Below w.heap.size w X) => pfield_any c b X (HG.out.on hX) (by omega))
          have DF := hid (fun (b : Bool) (X : World) => dfield_any c b X (by omega))
          have FZ := hid (fun b => fldB_len c.data.toList b)
          have KF := hid (fun (b : Bool) (X : Abv wr) => CF.out b X.u (vonto HB2.out X.h))
          have KD := hid (fun (b : Bool) (X : Abv wr) => (DF.out b X.u).mono (fun e w' (h : e = _ ∧ w' = _) => show e = _ ∧ Below X.u.heap.size X.u w' from ⟨h.1, by rw [h.2]; exact Below.refl _ _⟩))
          have hinh := abv_some wr
          go_wp2_with fail
          have yd0 := above_cell d0
          have yd1 := above_cell d1
          clear d0 d1 CF DF
          refine wp_region_above (by kernel_rfl) (by kernel_rfl) ?_
          repeat (go_big_quiet_step ((first
            | (go_at_call 10; with_reducible exact above_of (KF.out _ _))
            | (go_at_call 12; with_reducible exact above_of (KD.out _ _)))))
          refine wpQuiet_nil ?_
          intro _ hw'
          obtain ⟨X, hX⟩ := hw'
          subst hX
          go_wp2_with fail
          go_roundw
          case rel => exact ⟨k + 1, hkl, val_int (by omega), vonto HB2.out X.h⟩
          case measure => simp [intOf]; omega
        · obtain rfl : k = ks.length := by omega
          go_wp2_with fail
          go_roundw
          case rel => exact ⟨j + 1, hlt, val_int (by omega), HB2.out⟩
          case measure => simp [intOf]; omega
    · obtain rfl : j = rows.length := by omega
      have C1 := hid (CP.out wr HB.out)
      obtain ⟨P, hP⟩ : ∃ P, mkS (prnB (rb rows)) = P := ⟨_, rfl⟩
      rw [hP] at C1 DP
      generalize mayB (rb rows) = M at CM DM
      clear hP CP
      go_wp2_with fail
      go_at_call 9
      refine C1.out.mono ?_
      rintro e w2 ⟨rfl, hb2⟩
      have HB2 := hid (vonto HB.out hb2)
      have C2 := hid (DP.out w2 HB2.out)
      clear hb2 C1 DP
      go_wp2_with fail
      go_at_call 13
      refine C2.out.mono ?_
      rintro e w3 ⟨rfl, m, hw3⟩
      have HB3 : Hid (Below w.heap.size w w3) := hid (by rw [hw3]; exact below_drewN HB2.out m)
      have C3 := hid (CM.out w3 HB3.out)
      clear hw3 C2 CM
      go_wp2_with fail
      go_at_call 8
      refine C3.out.mono ?_
      rintro e w4 ⟨rfl, hb4⟩
      have HB4 := hid (vonto HB3.out hb4)
      have C4 := hid (DM.out w4 HB4.out)
      clear hb4 C3 DM
      go_wp2_with fail
      go_at_call 14
      refine C4.out.mono ?_
      rintro e w5 ⟨rfl, hb5⟩
      have HB5 := hid (vonto HB4.out hb5)
      clear hb5 C4
      cases M
      · go_wp2_with fail
        go_ret
        exact ⟨rfl, HB5.out⟩
      · go_wp2_with fail
        go_ret
        exact ⟨rfl, HB5.out⟩
end Go.Proofs.YtjbccmnmcjmooaaDoor
