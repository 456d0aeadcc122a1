import Derived.Test.YtjbccmnmcjmooaaDoorCpG
/- The document's own judge of rows: Str, May. -/
namespace Go.Proofs.YtjbccmnmcjmooaaDoor
open Go.RowKit

theorem pstr_is (s : ByteArray) : pStrOk s.data.toList = strOkB s := by
  unfold pStrOk strOkB
  rw [size_list]
  congr 1
  rw [Bool.eq_iff_iff, valid_is, decide_eq_true_iff]
  unfold VL
  constructor
  · intro h; rw [rv_yes _ h]; decide
  · intro h
    by_cases hv : pos s.data.toList (vlk s.data.toList) = s.data.toList.length
    · exact hv
    · rw [rv_no _ hv] at h; omega
set_option maxRecDepth 100000 in
set_option maxHeartbeats 400000 in
theorem dstr_any (s : ByteArray) (w : World) (hs : s.size ≤ maxLen) :
    Calls Tryd.prog 25 #[.string s] w fun e w' => e = .returned (.bool (pStrOk s.data.toList)) ∧ Below w.heap.size w w' := by
  rw [pstr_is]
  have C := hid (rvalid_any s w hs)
  obtain ⟨R, hR⟩ : ∃ R, strOkB s = R := ⟨_, rfl⟩
  rw [hR]
  unfold strOkB at hR
  unfold maxLen at hs
  by_cases h : s.size ≤ 4096
  · rw [decide_eq_true h, Bool.true_and] at hR
    have HR := hid hR
    generalize rvI s.data.toList = q at C HR
    clear hR
    have hz : (s.size : Int) ≤ 4096 := by omega
    go_enter Tryd.func25, Tryd.ntmps25
    go_wp2_with fail
    go_at_call 17
    refine C.out.mono ?_
    rintro e w1 ⟨rfl, hb1⟩
    have HB1 := hid hb1
    clear hb1 C
    go_wp2_with fail
    go_ret
    exact ⟨by rw [← HR.out]; rfl, HB1.out⟩
  · rw [decide_eq_false h, Bool.false_and] at hR
    have HR := hid hR
    clear hR C
    have hz : ¬ (s.size : Int) ≤ 4096 := by omega
    go_enter Tryd.func25, Tryd.ntmps25
    go_wp2_with fail
    go_ret
    exact ⟨by rw [← HR.out]; rfl, Below.refl _ _⟩
set_option maxRecDepth 100000 in
set_option maxHeartbeats 4000000 in
theorem dmay_any (rows : List (List ByteArray)) (v : Value) (w : World) (h : InR w rows v) (hn : RBnd rows) :
    Calls Tryd.prog 14 #[v] w fun e w' => e = .returned (.bool (mayB (rb rows))) ∧ Below w.heap.size w w' := by
  have CP := hid (fun X (hX : Below w.heap.size w X) => dprint_any rows v X (h.onto hX) hn)
  obtain ⟨a, ⟨o, cap, rfl, hc1, hc2, ho⟩, hcell⟩ := h
  unfold maxLen at hc2
  have HN := hid hn
  have hn1 := hn.1
  obtain ⟨R, hR⟩ : ∃ R, mayB (rb rows) = R := ⟨_, rfl⟩
  rw [hR]
  unfold mayB at hR
  rw [rb_len] at hR
  have HCE := hid hcell
  clear hn hcell
  by_cases h513 : 513 < rows.length
  · have HR : Hid (R = false) := hid (by rw [← hR, decide_eq_false (p := rows.length ≤ 513) (by omega)]; simp)
    clear hR
    go_enter Tryd.func14, Tryd.ntmps14
    go_wp2_with fail
    go_ret
    exact ⟨by rw [HR.out]; rfl, Below.refl _ _⟩
  rw [decide_eq_true (show rows.length ≤ 513 by omega), Bool.true_and] at hR
  have HR := hid hR
  clear hR
  go_enter Tryd.func14, Tryd.ntmps14
  go_wp2_with fail
  go_loopw [3] (fun i wr => ∃ j : Nat, j ≤ rows.length ∧ i = .int .i64 j ∧ Hid (Below w.heap.size w wr) ∧ Hid (((rb rows).take j).all (pRowOk ((rb rows).headD []).length) = true)) (fun i _ => rows.length - (intOf i).toNat)
  case atStart => exact ⟨0, Nat.zero_le _, rfl, Below.refl _ _, rfl⟩
  case round =>
    obtain ⟨j, hj, rfl, HB, HA⟩ := hrel
    by_cases hlt : j < rows.length
    · obtain ⟨ks, hks⟩ : ∃ ks, rows[j]? = some ks := ⟨rows[j], List.getElem?_eq_getElem hlt⟩
      obtain ⟨k0, hk0⟩ : ∃ ks, rows[0]? = some ks := ⟨rows[0], List.getElem?_eq_getElem (by omega)⟩
      obtain rfl := ho (by omega)
      obtain ⟨u, hu, hin⟩ := HCE.out j ks hks
      obtain ⟨u0, hu0, hin0⟩ := HCE.out 0 k0 hk0
      have hmem := List.mem_of_getElem? hks
      have HX := hid (fun h => pall_no (pRowOk ((rb rows).headD []).length) (rb rows) j _ (rb_at rows j ks hks) h)
      have HNX := hid (pall_next (pRowOk ((rb rows).headD []).length) (rb rows) j _ (rb_at rows j ks hks))
      have HPO : Hid (pRowOk ((rb rows).headD []).length (ks.map (·.data.toList)) = (decide (ks.length = k0.length) && (decide (1 ≤ ks.length) && decide (ks.length ≤ 64) && (ks.map (·.data.toList)).all pStrOk))) := hid (by
        rw [rb_head rows k0 hk0]; unfold pRowOk; rw [List.length_map])
      obtain ⟨a2, ⟨o2, cap2, rfl, hd1, hd2, ho2⟩, hcell2⟩ := hin
      unfold maxLen at hd2
      obtain ⟨ov, cv, hve⟩ := hin0.shape
      subst hve
      have HU := hid hu
      have HC2 := hid hcell2
      have d0 := keepCell HB.out hu
      have d1 := keepCell HB.out hu0
      have d2 : wr.cell? a = some (.slice ov k0.length cv) := by rw [show a.add 0 = a by simp [Addr.add]] at d1; exact d1
      have hl1 : ks.length ≤ 1000 := (HN.out.2 ks hmem).1
      have hl0 : k0.length ≤ 1000 := (HN.out.2 k0 (List.mem_of_getElem? hk0)).1
      have HLN : Hid (ks.length = (ks.map (·.data.toList)).length) := hid (by simp)
      clear hu hcell2 hu0 hin0 hmem hks hk0
      generalize k0.length = n0 at d1 d2 HPO hl0
      obtain ⟨n, hnn⟩ : ∃ n, ks.length = n := ⟨_, rfl⟩
      have HNN := hid hnn
      rw [hnn] at HPO d0 hl1 HU hd1 ho2
      clear hnn HLN
      by_cases h1 : n < 1
      · have f1 : decide ((n : Int) < 1) = true := decide_eq_true (by omega)
        have f1' : (n : Int) < 1 := by omega
        clear h1
        have h1 : n < 1 := by omega
        have HFa : Hid (R = false) := hid (by rw [← HR.out, HX.out (by rw [HPO.out, decide_eq_false (p := 1 ≤ n) (by omega)]; simp)]; rfl)
        go_wp2_with fail
        go_region
        go_wp2_with fail
        go_ret
        exact ⟨by rw [HFa.out]; rfl, HB.out.drew⟩
      have f1 : decide ((n : Int) < 1) = false := decide_eq_false (by omega)
      have f1' : ¬ (n : Int) < 1 := by omega
      have f3 : ¬ n = 0 := by omega
      by_cases h64 : 64 < n
      · have f2 : decide ((64 : Int) < (n : Int)) = true := decide_eq_true (by omega)
        have f2' : (64 : Int) < (n : Int) := by omega
        have HFa : Hid (R = false) := hid (by rw [← HR.out, HX.out (by rw [HPO.out, decide_eq_false (p := n ≤ 64) (by omega)]; simp)]; rfl)
        go_wp2_with fail
        go_region
        go_wp2_with fail
        go_ret
        exact ⟨by rw [HFa.out]; rfl, HB.out.drew⟩
      obtain rfl := ho2 (by omega)
      have hne : 0 < n := by omega
      have f2 : decide ((64 : Int) < (n : Int)) = false := decide_eq_false (by omega)
      have f2' : ¬ (64 : Int) < (n : Int) := by omega
      by_cases hq : n = n0
      · subst hq
        rw [decide_eq_true rfl, decide_eq_true (show 1 ≤ n by omega), decide_eq_true (show n ≤ 64 by omega), Bool.true_and, Bool.true_and, Bool.true_and] at HPO
        go_wp2_with fail
        go_region
        have HB1 := hid HB.out.drew
        go_wp2_with fail
        go_loopw [4] (fun i wr => ∃ k : Nat, k ≤ n ∧ i = .int .i64 k ∧ Hid (Below w.heap.size w wr) ∧ Hid (((ks.map (·.data.toList)).take k).all pStrOk = true)) (fun i _ => n - (intOf i).toNat)
        case atStart => exact ⟨0, Nat.zero_le _, rfl, HB1.out, rfl⟩
        case round =>
          obtain ⟨k, hk, rfl, HB2, HAS⟩ := hrel
          clear d0 d1 d2
          have d0 := keepCell HB2.out HU.out
          by_cases hkl : k < n
          · obtain ⟨c, hc⟩ : ∃ c, ks[k]? = some c := ⟨ks[k]'(by rw [HNN.out]; exact hkl), List.getElem?_eq_getElem (by rw [HNN.out]; exact hkl)⟩
            have e0 := keepCell HB2.out (HC2.out k c hc).1
            have CS := hid (fun X => dstr_any c X (HC2.out k c hc).2)
            have hck : (ks.map (·.data.toList))[k]? = some c.data.toList := by rw [List.getElem?_map, hc]; rfl
            have HN2 := hid (pall_next pStrOk _ k _ hck)
            have HX2 := hid (fun h => pall_no pStrOk _ k _ hck h)
            clear hc hck
            generalize pStrOk c.data.toList = q at CS HN2 HX2
            cases q with
            | true =>
              go_wp2_with fail
              go_at_call 25
              refine (CS.out _).mono ?_
              rintro e w1 ⟨rfl, hb1⟩
              have HB3 := hid (vonto HB2.out hb1)
              clear hb1 CS
              go_wp2_with fail
              go_roundw
              case rel => exact ⟨k + 1, hkl, val_int (by omega), HB3.out, by rw [HN2.out, HAS.out]; rfl⟩
              case measure => simp [intOf]; omega
            | false =>
              have HFa : Hid (R = false) := hid (by rw [← HR.out, HX.out (by rw [HPO.out, HX2.out rfl])]; rfl)
              go_wp2_with fail
              go_at_call 25
              refine (CS.out _).mono ?_
              rintro e w1 ⟨rfl, hb1⟩
              have HB3 := hid (vonto HB2.out hb1)
              clear hb1 CS
              go_wp2_with fail
              go_ret
              exact ⟨by rw [HFa.out]; rfl, HB3.out⟩
          · obtain rfl : k = n := by omega
            have HTA : Hid (((rb rows).take (j + 1)).all (pRowOk ((rb rows).headD []).length) = true) := hid (by
              rw [HNX.out, HA.out, HPO.out]
              have := HAS.out
              rw [List.take_of_length_le (by rw [List.length_map, HNN.out]; exact Nat.le_refl _)] at this
              rw [this]; rfl)
            go_wp2_with fail
            go_roundw
            case rel => exact ⟨j + 1, hlt, val_int (by omega), HB2.out, HTA.out⟩
            case measure => simp [intOf]; omega
      · have HFa : Hid (R = false) := hid (by rw [← HR.out, HX.out (by rw [HPO.out, decide_eq_false hq]; rfl)]; rfl)
        have hne2 : ¬ (n : Int) = (n0 : Int) := by omega
        go_wp2_with fail
        go_region
        go_wp2_with fail
        go_ret
        exact ⟨by rw [HFa.out]; rfl, HB.out.drew⟩
    · obtain rfl : j = rows.length := by omega
      have h1 := HA.out
      rw [List.take_of_length_le (by rw [rb_len]; exact Nat.le_refl _)] at h1
      have C1 := hid (CP.out wr HB.out)
      have hpz := prn_len rows HN.out rows.length (Nat.le_refl _)
      rw [List.take_of_length_le (by rw [rb_len]; exact Nat.le_refl _)] at hpz
      have HR2 : Hid (R = decide ((mkS (prnB (rb rows))).size ≤ 65536)) := hid (by rw [← HR.out, h1, mkS_size]; rfl)
      have hpz2 : (mkS (prnB (rb rows))).size ≤ 300000000000 := by rw [mkS_size]; omega
      generalize mkS (prnB (rb rows)) = P at C1 HR2 hpz2
      clear h1 hpz CP
      go_wp2_with fail
      go_at_call 13
      refine C1.out.mono ?_
      rintro e w1 ⟨rfl, m, hw1⟩
      have HB1 : Hid (Below w.heap.size w w1) := hid (by rw [hw1]; exact below_drewN HB.out m)
      clear hw1 C1
      go_wp2_with fail
      go_ret
      exact ⟨by rw [HR2.out, show decide (P.size ≤ 65536) = decide ((P.size : Int) ≤ 65536) from decide_eq_decide.2 (by omega)]; rfl, HB1.out⟩
end Go.Proofs.YtjbccmnmcjmooaaDoor
