import Derived.Test.YtapclgjaalammaaL13R
/- The document's own reader of CSV: a field. -/
namespace Go.Proofs.Ytapclgjaalammaa
open Go.RowKit

set_option maxRecDepth 100000 in
set_option maxHeartbeats 4000000 in
theorem rfield_q (t : ByteArray) (k : Nat) (w : World) (hk : k < t.size) (hs : t.size ≤ 65536) (h34 : t[k].toNat = 34) :
    Calls Try.prog 18 #[.string t, .int .i64 (k : Int)] w fun e w' => e = .returned (fvR t (qt [] (t.data.toList.drop (k + 1)))) ∧ w' = w := by
  have CE := hid (fun k' X (h : k' ≤ t.size) => rend_any t k' X h (by omega))
  have hb : ((t[k].toNat : Int) == 34) = true := by rw [h34]; rfl
  obtain ⟨R0, hR0⟩ : ∃ R0, qt [] (t.data.toList.drop (k + 1)) = R0 := ⟨_, rfl⟩
  rw [hR0]
  have HR := hid hR0.symm
  have HD := hid (fun k' (h : k' < t.size) => drop_cons t k' h)
  have HN := hid (fun k' (h : t.size ≤ k') => drop_none t k' h)
  have HA := hid (fun a k' (h : k' < t.size) => mkS_app1 a t k' h)
  have hkl : (k : Int) < (t.size : Int) := by omega
  clear hR0 h34
  go_enter Try.func18, Try.ntmps18
  go_wp2_with fail
  go_loopg [7, 8] t.size (fun gk s i wr => wr = w ∧ ∃ (acc : List UInt8) (m : ByteArray) (k' : Nat), k' ≤ t.size ∧ t.size ≤ k' + gk ∧ m.size ≤ k' ∧ s = .string m ∧ i = .int .i64 (k' : Int) ∧ Hid (m = mkS acc) ∧ Hid (R0 = qt acc (t.data.toList.drop k')))
  case atStart => exact ⟨rfl, [], ⟨#[]⟩, k + 1, by omega, by omega, by simp [ByteArray.size], rfl, by go_num, hid rfl, HR⟩
  case round =>
    obtain ⟨rfl, acc, m, k', hk', hg, hms, rfl, rfl, HM, HR'⟩ := hrel
    clear HR
    by_cases hlt : k' < t.size
    · obtain ⟨g', rfl⟩ : ∃ g', gk = g' + 1 := ⟨gk - 1, by omega⟩
      have hltz : (k' : Int) < (t.size : Int) := by omega
      rw [HD.out k' hlt] at HR'
      by_cases hq : t[k'].toNat = 34
      · have hqb : ((t[k'].toNat : Int) != 34) = false := by rw [hq]; rfl
        have hc : t[k'] = 34 := UInt8.toNat_inj.1 hq
        rw [hc] at HR'
        by_cases h2 : k' + 1 < t.size
        · have h2z : (k' : Int) + 1 < (t.size : Int) := by omega
          have hne : ((k' : Int) + 1 == (t.size : Int)) = false := by rw [beq_eq_false_iff_ne]; omega
          rw [HD.out (k' + 1) h2] at HR'
          by_cases hq2 : t[k' + 1].toNat = 34
          · have hq2b : ((t[k' + 1].toNat : Int) == 34) = true := by rw [hq2]; rfl
            have hc2 : t[k' + 1] = 34 := UInt8.toNat_inj.1 hq2
            rw [hc2, qt_two] at HR'
            clear hq hc hq2 hc2
            go_wp2_with fail
            go_roundg g'
            case measure => omega
            case rel => exact ⟨rfl, acc ++ [34], m ++ ⟨#[34]⟩, k' + 2, by omega, by omega, by rw [ByteArray.size_append]; show m.size + 1 ≤ _; omega, rfl, by go_num, hid (by rw [HM.out]; exact mkS_of _ _ (by rw [ByteArray.data_append, Array.toList_append, mkS_list])), HR'⟩
          · have hq2b : ((t[k' + 1].toNat : Int) == 34) = false := by rw [beq_eq_false_iff_ne]; omega
            rw [qt_shut _ _ (by simp; intro e; exact hq2 (by rw [e]; rfl)), ← HD.out (k' + 1) h2] at HR'
            have hrl : (t.data.toList.drop (k' + 1)).length = t.size - (k' + 1) := by rw [List.length_drop, size_list]
            have HPOS : Hid (((t.size - (t.data.toList.drop (k' + 1)).length : Nat) : Int) = (k' : Int) + 1) := hid (by rw [hrl]; omega)
            by_cases h44 : t[k' + 1].toNat = 44
            · have h44b : ((t[k' + 1].toNat : Int) == 44) = true := by rw [h44]; rfl
              have HX : Hid (R0 = .ok acc (t.data.toList.drop (k' + 1))) := hid (by rw [HR'.out, if_pos (Or.inl (by rw [HD.out (k' + 1) h2]; simp; exact UInt8.toNat_inj.1 h44))])
              clear hq hc hq2 h44 hrl HR'
              go_wp2_with fail
              go_ret3
              exact ⟨by rw [HX.out]; show _ = Ending.returned (.tuple #[_, _, _]); rw [HPOS.out, HM.out]; rfl, rfl⟩
            · have h44b : ((t[k' + 1].toNat : Int) == 44) = false := by rw [beq_eq_false_iff_ne]; omega
              have C := hid (fun X => CE.out (k' + 1) X (by omega))
              have ez : ((k' + 1 : Nat) : Int) = (k' : Int) + 1 := by omega
              rw [ez] at C
              have h44n : ¬ (t.data.toList.drop (k' + 1)).head? = some 44 := by rw [HD.out (k' + 1) h2]; simp; intro e; exact h44 (by rw [e]; rfl)
              have hne2 : t.data.toList.drop (k' + 1) ≠ [] := by rw [HD.out (k' + 1) h2]; simp
              have h2n := endN_two (t.data.toList.drop (k' + 1))
              by_cases hen : 0 < endN (t.data.toList.drop (k' + 1))
              · have HX : Hid (R0 = .ok acc (t.data.toList.drop (k' + 1))) := hid (by rw [HR'.out, if_pos (Or.inr (by unfold endB; exact decide_eq_true (Or.inr hen)))])
                obtain ⟨z, hz⟩ : ∃ z, endN (t.data.toList.drop (k' + 1)) = z := ⟨_, rfl⟩
                rw [hz] at C hen h2n
                have henz : (0 : Int) < (z : Int) := by omega
                clear hq hc hq2 h44 hrl HR' hz h44n hne2
                go_wp2_with (go_at_call 19; go_must (refine (C.out _).mono ?_; rintro e w1 ⟨rfl, hw1⟩; obtain rfl := hw1.symm))
                go_ret3
                exact ⟨by rw [HX.out]; show _ = Ending.returned (.tuple #[_, _, _]); rw [HPOS.out, HM.out]; rfl, rfl⟩
              · have HX : Hid (R0 = .bad 4 (t.data.toList.drop (k' + 1))) := hid (by rw [HR'.out, if_neg (by rintro (h | h); exact h44n h; unfold endB at h; have := of_decide_eq_true h; exact this.elim hne2 hen)])
                obtain ⟨z, hz⟩ : ∃ z, endN (t.data.toList.drop (k' + 1)) = z := ⟨_, rfl⟩
                rw [hz] at C hen h2n
                obtain rfl : z = 0 := by omega
                clear hq hc hq2 h44 hrl HR' hz h44n hne2
                go_wp2_with (go_at_call 19; go_must (refine (C.out _).mono ?_; rintro e w1 ⟨rfl, hw1⟩; obtain rfl := hw1.symm))
                go_ret3
                exact ⟨by rw [HX.out]; show _ = Ending.returned (.tuple #[_, _, _]); rw [HPOS.out]; rfl, rfl⟩
        · have h2z : ¬ (k' : Int) + 1 < (t.size : Int) := by omega
          have hne : ((k' : Int) + 1 == (t.size : Int)) = true := by rw [beq_iff_eq]; omega
          rw [HN.out (k' + 1) (by omega), qt_shut _ _ (by simp), if_pos (Or.inr (show endB [] = true by simp [endB]))] at HR'
          have HPOS : Hid (((t.size - ([] : List UInt8).length : Nat) : Int) = (k' : Int) + 1) := hid (by simp; omega)
          clear hq hc h2
          go_wp2_with fail
          go_ret3
          exact ⟨by rw [HR'.out]; show _ = Ending.returned (.tuple #[_, _, _]); rw [HPOS.out, HM.out]; rfl, rfl⟩
      · have hqb : ((t[k'].toNat : Int) != 34) = true := by rw [bne_iff_ne]; omega
        rw [qt_byte _ _ _ (fun e => hq (by rw [e]; rfl))] at HR'
        have HA2 := hid (HA.out acc k' hlt)
        clear hq
        go_wp2_with fail
        go_roundg g'
        case measure => omega
        case rel => exact ⟨rfl, acc ++ [t[k']], m ++ t.extract k' (k' + 1), k' + 1, by omega, by omega, by rw [ByteArray.size_append, ByteArray.size_extract]; omega, rfl, by go_num, hid (by rw [HM.out]; exact HA2.out), HR'⟩
    · have hltz : ¬ (k' : Int) < (t.size : Int) := by omega
      rw [HN.out k' (by omega)] at HR'
      clear hlt
      go_wp2_with fail
      go_ret3
      exact ⟨by rw [HR'.out]; rfl, rfl⟩
end Go.Proofs.Ytapclgjaalammaa
