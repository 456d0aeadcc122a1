import Derived.Test.YtapclgjaalammaaL13S
/- The document's own reader of CSV: a field, whole. -/
namespace Go.Proofs.Ytapclgjaalammaa
open Go.RowKit

theorem cplS_stop (c : UInt8) (l : List UInt8) (h : stopB c = true) : cplS (c :: l) = [] ∧ cplR (c :: l) = c :: l := by
  unfold cplS cplR
  rw [List.takeWhile_cons, List.dropWhile_cons]
  simp [h]
theorem cplS_go (c : UInt8) (l : List UInt8) (h : stopB c = false) : cplS (c :: l) = c :: cplS l ∧ cplR (c :: l) = cplR l := by
  unfold cplS cplR
  rw [List.takeWhile_cons, List.dropWhile_cons]
  simp [h]
theorem cplS_nil : cplS [] = [] ∧ cplR [] = [] := ⟨rfl, rfl⟩
theorem rplain_ok {t : ByteArray} {k i : Nat} {L : List UInt8} (hi : i ≤ t.size) (h1 : cplS L = (t.extract k i).data.toList ++ cplS (t.data.toList.drop i)) (h2 : cplR L = cplR (t.data.toList.drop i)) (hf : fld1 L = if (cplR L).head? = some 34 ∨ ((cplR L).head? = some 13 ∧ endN (cplR L) = 0) then .bad 4 (cplR L) else .ok (cplS L) (cplR L)) (hs : cplS (t.data.toList.drop i) = [] ∧ cplR (t.data.toList.drop i) = t.data.toList.drop i) (hn : ¬ ((t.data.toList.drop i).head? = some 34 ∨ ((t.data.toList.drop i).head? = some 13 ∧ endN (t.data.toList.drop i) = 0))) :
    fvR t (fld1 L) = .tuple #[.string (t.extract k i), .int .i64 (i : Int), .int .i64 (-1)] := by
  rw [hf, h2, hs.2, if_neg hn]
  unfold fvR
  simp only
  rw [h1, hs.1, List.append_nil, ← mkS_of (t.extract k i) _ rfl, List.length_drop, size_list, show t.size - (t.size - i) = i by omega]
theorem rplain_bad {t : ByteArray} {i : Nat} {L : List UInt8} (hi : i ≤ t.size) (h2 : cplR L = cplR (t.data.toList.drop i)) (hf : fld1 L = if (cplR L).head? = some 34 ∨ ((cplR L).head? = some 13 ∧ endN (cplR L) = 0) then .bad 4 (cplR L) else .ok (cplS L) (cplR L)) (hs : cplR (t.data.toList.drop i) = t.data.toList.drop i) (hn : (t.data.toList.drop i).head? = some 34 ∨ ((t.data.toList.drop i).head? = some 13 ∧ endN (t.data.toList.drop i) = 0)) :
    fvR t (fld1 L) = .tuple #[.string ⟨#[]⟩, .int .i64 0, .int .i64 (i : Int)] := by
  rw [hf, h2, hs, if_pos hn]
  unfold fvR
  simp only
  rw [List.length_drop, size_list, show t.size - (t.size - i) = i by omega]
theorem ext_more (t : ByteArray) (k i : Nat) (hk : k ≤ i) (h : i < t.size) : (t.extract k (i + 1)).data.toList = (t.extract k i).data.toList ++ [t[i]] := by
  rw [part_list, part_list]
  have hl : i < t.data.toList.length := by rw [size_list]; exact h
  rw [List.take_succ_eq_append_getElem hl, List.drop_append_of_le_length (by rw [List.length_take, size_list]; omega)]
  rfl
set_option maxRecDepth 100000 in
set_option maxHeartbeats 4000000 in
theorem rfield_p (t : ByteArray) (k : Nat) (w : World) (hk : k ≤ t.size) (hs : t.size ≤ 65536) (h34 : ¬ (t.data.toList.drop k).head? = some 34) :
    Calls Try.prog 18 #[.string t, .int .i64 (k : Int)] w fun e w' => e = .returned (fvR t (fld1 (t.data.toList.drop k))) ∧ w' = w := by
  have CE := hid (fun k' X (h : k' ≤ t.size) => rend_any t k' X h (by omega))
  obtain ⟨L, hL⟩ : ∃ L, t.data.toList.drop k = L := ⟨_, rfl⟩
  have hstart : (¬ k < t.size) ∨ ∃ h : k < t.size, ¬ t[k].toNat = 34 := by
    by_cases h : k < t.size
    · right
      refine ⟨h, fun e => h34 ?_⟩
      rw [drop_cons t k h]; simp; exact UInt8.toNat_inj.1 e
    · exact Or.inl h
  rw [hL] at h34 ⊢
  have HFF : Hid (fld1 L = if (cplR L).head? = some 34 ∨ ((cplR L).head? = some 13 ∧ endN (cplR L) = 0) then .bad 4 (cplR L) else .ok (cplS L) (cplR L)) := hid (by unfold fld1; rw [if_neg h34])
  have HD := hid (fun k' (h : k' < t.size) => drop_cons t k' h)
  have HN := hid (fun k' (h : t.size ≤ k') => drop_none t k' h)
  have HI1 : Hid (cplS L = (t.extract k k).data.toList ++ cplS (t.data.toList.drop k)) := hid (by rw [hL]; simp)
  have HI2 : Hid (cplR L = cplR (t.data.toList.drop k)) := hid (by rw [hL])
  obtain ⟨R0, hR0⟩ : ∃ R0, fvR t (fld1 L) = R0 := ⟨_, rfl⟩
  have HR0 := hid hR0
  rw [hR0]
  clear hL h34 hR0
  rcases hstart with h0 | ⟨h0, h34⟩
  · have h0z : ¬ (k : Int) < (t.size : Int) := by omega
    go_enter Try.func18, Try.ntmps18
    go_wp2_with fail
    go_loopg [9] t.size (fun gk i wr => wr = w ∧ ∃ j : Nat, k ≤ j ∧ j ≤ t.size ∧ t.size ≤ j + gk ∧ i = .int .i64 (j : Int) ∧ Hid (cplS L = (t.extract k j).data.toList ++ cplS (t.data.toList.drop j)) ∧ Hid (cplR L = cplR (t.data.toList.drop j)))
    case atStart => exact ⟨rfl, k, Nat.le_refl _, hk, by omega, rfl, HI1, HI2⟩
    case round =>
      obtain ⟨rfl, j, hkj, hj, hg, rfl, HJ1, HJ2⟩ := hrel
      clear HI1 HI2
      by_cases hlt : j < t.size
      · obtain ⟨g', rfl⟩ : ∃ g', gk = g' + 1 := ⟨gk - 1, by omega⟩
        have hltz : (j : Int) < (t.size : Int) := by omega
        have hd := HD.out j hlt
        have h2n := endN_two (t.data.toList.drop j)
        have C := hid (fun X => CE.out j X hj)
        by_cases h44 : t[j].toNat = 44
        · have h44b : ((t[j].toNat : Int) != 44) = false := by rw [h44]; rfl
          have hc : t[j] = 44 := UInt8.toNat_inj.1 h44
          rw [hc] at hd
          have HX := hid (rplain_ok hj HJ1.out HJ2.out HFF.out (by rw [hd]; exact cplS_stop 44 _ rfl) (by rw [hd]; simp))
          clear hd h44 hc C h2n
          go_wp2_with fail
          go_ret3
          exact ⟨by rw [← HR0.out, HX.out]; rfl, rfl⟩
        · have h44b : ((t[j].toNat : Int) != 44) = true := by rw [bne_iff_ne]; omega
          by_cases hen : 0 < endN (t.data.toList.drop j)
          · have hst : stopB t[j] = true ∧ ¬ t[j].toNat = 34 := by
              rw [hd] at hen
              unfold endN at hen
              split at hen
              · next h => simp at h; rw [h]; exact ⟨rfl, by decide⟩
              · split at hen
                · next h => have := h.1; simp at this; rw [this]; exact ⟨rfl, by decide⟩
                · omega
            have HX := hid (rplain_ok hj HJ1.out HJ2.out HFF.out (by rw [hd]; exact cplS_stop _ _ hst.1) (by rintro (h | h); rw [hd] at h; simp at h; exact hst.2 (by rw [h]; rfl); omega))
            obtain ⟨z, hz⟩ : ∃ z, endN (t.data.toList.drop j) = z := ⟨_, rfl⟩
            rw [hz] at C hen h2n
            have henz : ((z : Int) == 0) = false := by rw [beq_eq_false_iff_ne]; omega
            clear hd h44 hz hst hen
            go_wp2_with (go_at_call 19; go_must (refine (C.out _).mono ?_; rintro e w1 ⟨rfl, hw1⟩; obtain rfl := hw1.symm))
            go_ret3
            exact ⟨by rw [← HR0.out, HX.out]; rfl, rfl⟩
          · have hen0 : endN (t.data.toList.drop j) = 0 := by omega
            rw [hen0] at C
            by_cases hq : t[j].toNat = 34
            · have hqb : ((t[j].toNat : Int) == 34) = true := by rw [hq]; rfl
              have hc : t[j] = 34 := UInt8.toNat_inj.1 hq
              rw [hc] at hd
              have HX := hid (rplain_bad hj HJ2.out HFF.out (by rw [hd]; exact (cplS_stop 34 _ rfl).2) (Or.inl (by rw [hd]; rfl)))
              clear hd h44 hq hc hen hen0 h2n
              go_wp2_with (go_at_call 19; go_must (refine (C.out _).mono ?_; rintro e w1 ⟨rfl, hw1⟩; obtain rfl := hw1.symm))
              go_ret3
              exact ⟨by rw [← HR0.out, HX.out]; rfl, rfl⟩
            · have hqb : ((t[j].toNat : Int) == 34) = false := by rw [beq_eq_false_iff_ne]; omega
              by_cases h13 : t[j].toNat = 13
              · have h13b : ((t[j].toNat : Int) == 13) = true := by rw [h13]; rfl
                have hc : t[j] = 13 := UInt8.toNat_inj.1 h13
                have HX := hid (rplain_bad hj HJ2.out HFF.out (by rw [hd, hc]; exact (cplS_stop 13 _ rfl).2) (Or.inr ⟨by rw [hd, hc]; rfl, hen0⟩))
                clear hd h44 hq hc hen hen0 h2n h13
                go_wp2_with (go_at_call 19; go_must (refine (C.out _).mono ?_; rintro e w1 ⟨rfl, hw1⟩; obtain rfl := hw1.symm))
                go_ret3
                exact ⟨by rw [← HR0.out, HX.out]; rfl, rfl⟩
              · have h13b : ((t[j].toNat : Int) == 13) = false := by rw [beq_eq_false_iff_ne]; omega
                have h10 : ¬ t[j].toNat = 10 := fun h => by
                  have hc : t[j] = 10 := UInt8.toNat_inj.1 h
                  rw [hd, hc] at hen0
                  simp [endN] at hen0
                have hst : stopB t[j] = false := by
                  unfold stopB
                  refine decide_eq_false ?_
                  rintro (h | h | h | h)
                  · exact h44 (by rw [h]; rfl)
                  · exact h10 (by rw [h]; rfl)
                  · exact h13 (by rw [h]; rfl)
                  · exact hq (by rw [h]; rfl)
                obtain ⟨q1, q2⟩ := cplS_go t[j] (t.data.toList.drop (j + 1)) hst
                have HK1 : Hid (cplS L = (t.extract k (j + 1)).data.toList ++ cplS (t.data.toList.drop (j + 1))) := hid (by rw [HJ1.out, hd, q1, ext_more t k j hkj hlt, List.append_assoc]; rfl)
                have HK2 : Hid (cplR L = cplR (t.data.toList.drop (j + 1))) := hid (by rw [HJ2.out, hd, q2])
                clear hd h44 hq hen hen0 h2n h13 h10 hst q1 q2 HJ1 HJ2
                go_wp2_with (go_at_call 19; go_must (refine (C.out _).mono ?_; rintro e w1 ⟨rfl, hw1⟩; obtain rfl := hw1.symm))
                go_roundg g'
                case measure => omega
                case rel => exact ⟨rfl, j + 1, by omega, by omega, by omega, by go_num, HK1, HK2⟩
      · have hltz : ¬ (j : Int) < (t.size : Int) := by omega
        have HX := hid (rplain_ok hj HJ1.out HJ2.out HFF.out (by rw [HN.out j (by omega)]; exact cplS_nil) (by rw [HN.out j (by omega)]; simp))
        clear hlt
        go_wp2_with fail
        go_ret3
        exact ⟨by rw [← HR0.out, HX.out]; rfl, rfl⟩
  · have h0z : (k : Int) < (t.size : Int) := by omega
    have hqb0 : ((t[k].toNat : Int) == 34) = false := by rw [beq_eq_false_iff_ne]; omega
    clear h34
    go_enter Try.func18, Try.ntmps18
    go_wp2_with fail
    go_loopg [9] t.size (fun gk i wr => wr = w ∧ ∃ j : Nat, k ≤ j ∧ j ≤ t.size ∧ t.size ≤ j + gk ∧ i = .int .i64 (j : Int) ∧ Hid (cplS L = (t.extract k j).data.toList ++ cplS (t.data.toList.drop j)) ∧ Hid (cplR L = cplR (t.data.toList.drop j)))
    case atStart => exact ⟨rfl, k, Nat.le_refl _, hk, by omega, rfl, HI1, HI2⟩
    case round =>
      obtain ⟨rfl, j, hkj, hj, hg, rfl, HJ1, HJ2⟩ := hrel
      clear HI1 HI2
      by_cases hlt : j < t.size
      · obtain ⟨g', rfl⟩ : ∃ g', gk = g' + 1 := ⟨gk - 1, by omega⟩
        have hltz : (j : Int) < (t.size : Int) := by omega
        have hd := HD.out j hlt
        have h2n := endN_two (t.data.toList.drop j)
        have C := hid (fun X => CE.out j X hj)
        by_cases h44 : t[j].toNat = 44
        · have h44b : ((t[j].toNat : Int) != 44) = false := by rw [h44]; rfl
          have hc : t[j] = 44 := UInt8.toNat_inj.1 h44
          rw [hc] at hd
          have HX := hid (rplain_ok hj HJ1.out HJ2.out HFF.out (by rw [hd]; exact cplS_stop 44 _ rfl) (by rw [hd]; simp))
          clear hd h44 hc C h2n
          go_wp2_with fail
          go_ret3
          exact ⟨by rw [← HR0.out, HX.out]; rfl, rfl⟩
        · have h44b : ((t[j].toNat : Int) != 44) = true := by rw [bne_iff_ne]; omega
          by_cases hen : 0 < endN (t.data.toList.drop j)
          · have hst : stopB t[j] = true ∧ ¬ t[j].toNat = 34 := by
              rw [hd] at hen
              unfold endN at hen
              split at hen
              · next h => simp at h; rw [h]; exact ⟨rfl, by decide⟩
              · split at hen
                · next h => have := h.1; simp at this; rw [this]; exact ⟨rfl, by decide⟩
                · omega
            have HX := hid (rplain_ok hj HJ1.out HJ2.out HFF.out (by rw [hd]; exact cplS_stop _ _ hst.1) (by rintro (h | h); rw [hd] at h; simp at h; exact hst.2 (by rw [h]; rfl); omega))
            obtain ⟨z, hz⟩ : ∃ z, endN (t.data.toList.drop j) = z := ⟨_, rfl⟩
            rw [hz] at C hen h2n
            have henz : ((z : Int) == 0) = false := by rw [beq_eq_false_iff_ne]; omega
            clear hd h44 hz hst hen
            go_wp2_with (go_at_call 19; go_must (refine (C.out _).mono ?_; rintro e w1 ⟨rfl, hw1⟩; obtain rfl := hw1.symm))
            go_ret3
            exact ⟨by rw [← HR0.out, HX.out]; rfl, rfl⟩
          · have hen0 : endN (t.data.toList.drop j) = 0 := by omega
            rw [hen0] at C
            by_cases hq : t[j].toNat = 34
            · have hqb : ((t[j].toNat : Int) == 34) = true := by rw [hq]; rfl
              have hc : t[j] = 34 := UInt8.toNat_inj.1 hq
              rw [hc] at hd
              have HX := hid (rplain_bad hj HJ2.out HFF.out (by rw [hd]; exact (cplS_stop 34 _ rfl).2) (Or.inl (by rw [hd]; rfl)))
              clear hd h44 hq hc hen hen0 h2n
              go_wp2_with (go_at_call 19; go_must (refine (C.out _).mono ?_; rintro e w1 ⟨rfl, hw1⟩; obtain rfl := hw1.symm))
              go_ret3
              exact ⟨by rw [← HR0.out, HX.out]; rfl, rfl⟩
            · have hqb : ((t[j].toNat : Int) == 34) = false := by rw [beq_eq_false_iff_ne]; omega
              by_cases h13 : t[j].toNat = 13
              · have h13b : ((t[j].toNat : Int) == 13) = true := by rw [h13]; rfl
                have hc : t[j] = 13 := UInt8.toNat_inj.1 h13
                have HX := hid (rplain_bad hj HJ2.out HFF.out (by rw [hd, hc]; exact (cplS_stop 13 _ rfl).2) (Or.inr ⟨by rw [hd, hc]; rfl, hen0⟩))
                clear hd h44 hq hc hen hen0 h2n h13
                go_wp2_with (go_at_call 19; go_must (refine (C.out _).mono ?_; rintro e w1 ⟨rfl, hw1⟩; obtain rfl := hw1.symm))
                go_ret3
                exact ⟨by rw [← HR0.out, HX.out]; rfl, rfl⟩
              · have h13b : ((t[j].toNat : Int) == 13) = false := by rw [beq_eq_false_iff_ne]; omega
                have h10 : ¬ t[j].toNat = 10 := fun h => by
                  have hc : t[j] = 10 := UInt8.toNat_inj.1 h
                  rw [hd, hc] at hen0
                  simp [endN] at hen0
                have hst : stopB t[j] = false := by
                  unfold stopB
                  refine decide_eq_false ?_
                  rintro (h | h | h | h)
                  · exact h44 (by rw [h]; rfl)
                  · exact h10 (by rw [h]; rfl)
                  · exact h13 (by rw [h]; rfl)
                  · exact hq (by rw [h]; rfl)
                obtain ⟨q1, q2⟩ := cplS_go t[j] (t.data.toList.drop (j + 1)) hst
                have HK1 : Hid (cplS L = (t.extract k (j + 1)).data.toList ++ cplS (t.data.toList.drop (j + 1))) := hid (by rw [HJ1.out, hd, q1, ext_more t k j hkj hlt, List.append_assoc]; rfl)
                have HK2 : Hid (cplR L = cplR (t.data.toList.drop (j + 1))) := hid (by rw [HJ2.out, hd, q2])
                clear hd h44 hq hen hen0 h2n h13 h10 hst q1 q2 HJ1 HJ2
                go_wp2_with (go_at_call 19; go_must (refine (C.out _).mono ?_; rintro e w1 ⟨rfl, hw1⟩; obtain rfl := hw1.symm))
                go_roundg g'
                case measure => omega
                case rel => exact ⟨rfl, j + 1, by omega, by omega, by omega, by go_num, HK1, HK2⟩
      · have hltz : ¬ (j : Int) < (t.size : Int) := by omega
        have HX := hid (rplain_ok hj HJ1.out HJ2.out HFF.out (by rw [HN.out j (by omega)]; exact cplS_nil) (by rw [HN.out j (by omega)]; simp))
        clear hlt
        go_wp2_with fail
        go_ret3
        exact ⟨by rw [← HR0.out, HX.out]; rfl, rfl⟩
theorem rfield_any (t : ByteArray) (k : Nat) (w : World) (hk : k ≤ t.size) (hs : t.size ≤ 65536) :
    Calls Try.prog 18 #[.string t, .int .i64 (k : Int)] w fun e w' => e = .returned (fvR t (fld1 (t.data.toList.drop k))) ∧ w' = w := by
  by_cases h34 : (t.data.toList.drop k).head? = some 34
  · have hlt : k < t.size := by
      by_cases h : k < t.size
      · exact h
      · rw [drop_none t k (by omega)] at h34; simp at h34
    have hd := drop_cons t k hlt
    have h := rfield_q t k w hlt hs (by rw [hd] at h34; simp at h34; rw [h34]; rfl)
    have e : fld1 (t.data.toList.drop k) = qt [] (t.data.toList.drop (k + 1)) := by unfold fld1; rw [if_pos h34, hd]; rfl
    rw [e]; exact h
  · exact rfield_p t k w hk hs h34
end Go.Proofs.Ytapclgjaalammaa
