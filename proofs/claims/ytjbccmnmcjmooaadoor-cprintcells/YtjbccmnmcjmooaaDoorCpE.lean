import Derived.Test.YtjbccmnmcjmooaaDoorCpD
/- cprint.May. -/
namespace Go.Proofs.YtjbccmnmcjmooaaDoor
open Go.RowKit

theorem prn_pre (ms : List (List (List UInt8))) (j : Nat) : (prnB (ms.take j)).length ≤ (prnB ms).length := by
  have : prnB ms = prnB (ms.take j) ++ prnB (ms.drop j) := by
    unfold prnB
    rw [← List.flatMap_append, List.take_append_drop]
  rw [this, List.length_append]; omega
theorem rb_at (rows : List (List ByteArray)) (j : Nat) (ks : List ByteArray) (h : rows[j]? = some ks) : (rb rows)[j]? = some (ks.map (·.data.toList)) := by
  unfold rb; rw [List.getElem?_map, h]; rfl
theorem rb_len (rows : List (List ByteArray)) : (rb rows).length = rows.length := by unfold rb; simp
theorem rb_head (rows : List (List ByteArray)) (ks : List ByteArray) (h : rows[0]? = some ks) : ((rb rows).headD []).length = ks.length := by
  cases rows with
  | nil => simp at h
  | cons a t => simp only [List.getElem?_cons_zero, Option.some.injEq] at h; subst h; simp [rb]
theorem InS.shape {w : World} {ks : List ByteArray} {u : Value} (h : InS w ks u) : ∃ ou cu, u = .slice ou ks.length cu := by
  obtain ⟨_, ⟨ou, cu, e, -⟩, -⟩ := h
  exact ⟨ou, cu, e⟩
set_option maxRecDepth 100000 in
set_option maxHeartbeats 2000000 in
theorem pmay_any (rows : List (List ByteArray)) (v : Value) (w : World) (hg : GlobC w) (h : InR w rows v) (hn : RBnd rows) :
    Calls Tryd.prog 8 #[v] w fun e w' => e = .returned (.bool (mayB (rb rows))) ∧ Below w.heap.size w w' := by
  obtain ⟨a, ⟨o, cap, rfl, hc1, hc2, ho⟩, hcell⟩ := h
  unfold maxLen at hc2
  have HN := hid hn
  have hn1 := hn.1
  have CL := hid (fun (ks : List ByteArray) (hz : ks ∈ rows) (u : Value) (X : World) (hX : Below w.heap.size w X) (hu : InS X ks u) => pline_any ks u X (hg.on hX) hu (by have := (hn.2 ks hz).1; omega) (fun s hs => by have := (hn.2 ks hz).2 s hs; omega))
  have CS := hid (fun (ks : List ByteArray) (u : Value) (X : World) (hX : Below w.heap.size w X) (hu : InS X ks u) => psay_any ks u X (hg.on hX) hu)
  obtain ⟨R, hR⟩ : ∃ R, mayB (rb rows) = R := ⟨_, rfl⟩
  rw [hR]
  unfold mayB at hR
  rw [rb_len] at hR
  have HCE := hid hcell
  clear hg hn hcell
  by_cases h513 : 513 < rows.length
  · have HR : Hid (R = false) := hid (by rw [← hR, decide_eq_false (p := rows.length ≤ 513) (by omega)]; simp)
    clear hR
    go_enter Tryd.func8, Tryd.ntmps8
    go_wp2_with fail
    go_ret
    exact ⟨by rw [HR.out]; rfl, Below.refl _ _⟩
  rw [decide_eq_true (show rows.length ≤ 513 by omega), Bool.true_and] at hR
  have HR := hid hR
  clear hR
  go_enter Tryd.func8, Tryd.ntmps8
  go_wp2_with fail
  go_loopw [3, 11] (fun z i wr => ∃ j k : Nat, j ≤ rows.length ∧ i = .int .i64 j ∧ z = .int .i64 k ∧ k ≤ 65536 ∧ Hid (k = (prnB ((rb rows).take j)).length) ∧ Hid (Below w.heap.size w wr) ∧ Hid (((rb rows).take j).all (pRowOk ((rb rows).headD []).length) = true)) (fun _ i _ => rows.length - (intOf i).toNat)
  case atStart => exact ⟨0, 0, Nat.zero_le _, rfl, rfl, Nat.zero_le _, rfl, Below.refl _ _, rfl⟩
  case round =>
    obtain ⟨j, k, hj, rfl, rfl, hk, HK, HB, HA⟩ := hrel
    by_cases hlt : j < rows.length
    · obtain ⟨ks, hks⟩ : ∃ ks, rows[j]? = some ks := ⟨rows[j], List.getElem?_eq_getElem hlt⟩
      obtain ⟨k0, hk0⟩ : ∃ ks, rows[0]? = some ks := ⟨rows[0], List.getElem?_eq_getElem (by omega)⟩
      obtain rfl := ho (by omega)
      obtain ⟨u, hu, hin⟩ := HCE.out j ks hks
      obtain ⟨u0, hu0, hin0⟩ := HCE.out 0 k0 hk0
      have d0 := keepCell HB.out hu
      have d1 := keepCell HB.out hu0
      have d2 : wr.cell? a = some u0 := by rw [show a.add 0 = a by simp [Addr.add]] at d1; exact d1
      have hmem := List.mem_of_getElem? hks
      have C1 := hid (CS.out ks u wr HB.out (hin.onto HB.out))
      have CL1 := hid (fun X (hX : Below wr.heap.size wr X) => CL.out ks hmem u X (vonto HB.out hX) ((hin.onto HB.out).onto hX))
      have hrz : (mkS (rowB (ks.map (·.data.toList)))).size ≤ 300000000 := by rw [mkS_size]; exact prow_len ks (HN.out.2 ks hmem).1 (HN.out.2 ks hmem).2
      have HT : Hid ((prnB ((rb rows).take (j + 1))).length = k + (mkS (rowB (ks.map (·.data.toList)))).size) := hid (by rw [prn_take rows j ks hks, List.length_append, mkS_size, HK.out])
      have HX := hid (fun h => pall_no (pRowOk ((rb rows).headD []).length) (rb rows) j _ (rb_at rows j ks hks) h)
      have HNX := hid (pall_next (pRowOk ((rb rows).headD []).length) (rb rows) j _ (rb_at rows j ks hks))
      have HPO : Hid (pRowOk ((rb rows).headD []).length (ks.map (·.data.toList)) = (decide (ks.length = k0.length) && sayB (ks.map (·.data.toList)))) := hid (by
        rw [rb_head rows k0 hk0]; unfold pRowOk sayB; rw [List.length_map])
      have HPRE := hid (prn_pre (rb rows) (j + 1))
      obtain ⟨ou, cu, hue⟩ := hin.shape
      obtain ⟨ov, cv, hve⟩ := hin0.shape
      subst hue hve
      have hl1 : ks.length ≤ 1000 := (HN.out.2 ks hmem).1
      clear hu hin hu0 hin0 hmem CL CS hks
      generalize sayB (ks.map (·.data.toList)) = q at C1 HPO
      generalize mkS (rowB (ks.map (·.data.toList))) = L at CL1 hrz HT
      have hl0 : k0.length ≤ 1000 := (HN.out.2 k0 (List.mem_of_getElem? hk0)).1
      clear hk0
      generalize ks.length = n at d0 C1 CL1 HPO hl1
      generalize k0.length = n0 at d1 d2 HPO hl0
      by_cases hnn : n = n0
      · subst hnn
        rw [decide_eq_true rfl, Bool.true_and] at HPO
        cases q with
        | true =>
          go_wp2_with fail
          go_at_call 18
          refine C1.out.mono ?_
          rintro e w1 ⟨rfl, hb1⟩
          have HB1 := hid (vonto HB.out hb1)
          have C2 := hid (CL1.out w1 hb1)
          clear hb1 C1 CL1
          go_wp2_with fail
          go_at_call 19
          refine C2.out.mono ?_
          rintro e w2 ⟨rfl, hb2⟩
          have HB2 := hid (vonto HB1.out hb2)
          clear hb2 C2
          by_cases hbig : 65536 < k + L.size
          · have HFa : Hid (R = false) := hid (by
              have := HPRE.out
              rw [← HR.out, decide_eq_false (p := (prnB (rb rows)).length ≤ 65536) (by have := HT.out; omega)]; simp)
            have hbig' : (65536 : Int) < (k : Int) + (L.size : Int) := by omega
            go_wp2_with fail
            go_ret
            exact ⟨by rw [HFa.out]; rfl, HB2.out⟩
          · have hbig' : ¬ (65536 : Int) < (k : Int) + (L.size : Int) := by omega
            go_wp2_with fail
            go_roundw
            case rel => exact ⟨j + 1, k + L.size, hlt, val_int (by omega), val_int (by omega), by omega, HT.out.symm, HB2.out, by rw [HNX.out, HPO.out, HA.out]; rfl⟩
            case measure => simp [intOf]; omega
        | false =>
          have HFa : Hid (R = false) := hid (by rw [← HR.out, HX.out HPO.out]; rfl)
          go_wp2_with fail
          go_at_call 18
          refine C1.out.mono ?_
          rintro e w1 ⟨rfl, hb1⟩
          have HB1 := hid (vonto HB.out hb1)
          clear hb1 C1
          go_wp2_with fail
          go_ret
          exact ⟨by rw [HFa.out]; rfl, HB1.out⟩
      · have HFa : Hid (R = false) := hid (by rw [← HR.out, HX.out (by rw [HPO.out, decide_eq_false hnn]; rfl)]; rfl)
        have hne : ¬ (n : Int) = (n0 : Int) := by omega
        go_wp2_with fail
        go_ret
        exact ⟨by rw [HFa.out]; rfl, HB.out⟩
    · obtain rfl : j = rows.length := by omega
      have HT : Hid (R = true) := hid (by
        have h1 := HA.out
        have h2 := HK.out
        rw [List.take_of_length_le (by rw [rb_len]; exact Nat.le_refl _)] at h1 h2
        rw [← HR.out, h1, decide_eq_true (by omega)]; rfl)
      go_wp2_with fail
      go_ret
      exact ⟨by rw [HT.out]; rfl, HB.out⟩
end Go.Proofs.YtjbccmnmcjmooaaDoor
