/- The statement TlexInts: walked. -/
import Derived.Test.YtdlideihlcjblaaGreatDoorL10A
import Derived.Test.YtdlideihlcjblaaGreatDoorMathTi
import Derived.Test.YtdlideihlcjblaaGreatDoorRefDecE
namespace Go.Proofs.YtdlideihlcjblaaGreatDoor
open Go.RowKit

theorem iapp (a b : ByteArray) : (a ++ b).data.toList = a.data.toList ++ b.data.toList := by simp
theorem itxt_nat (N : Nat) : txt (N : Int) = natD N := by unfold txt; rw [if_neg (by omega)]; rfl
theorem iwf_bd {n : Int} (h : (Lit.int .i64 n).wf = true) : -9223372036854775808 ≤ n ∧ n < 9223372036854775808 := by
  simp [Lit.wf, IntKind.min, IntKind.max, IntKind.signed, IntKind.bits] at h; omega
set_option maxRecDepth 100000 in
set_option maxHeartbeats 8000000 in
theorem ints_in (N : Nat) (c : Int) (hN : N < 9223372036854775808) (w : World) (hg : GlobN w) :
    Calls Tryz.prog 6 #[.int .i64 (N : Int), .int .i64 c] w fun e w' => e = .returned (.bool true) ∧ Below w.heap.size w w' := by
  have CA := hid (awake10 w hg)
  have HG := hid hg
  have HN := hid hN
  have T1 := hid (fun X => text_any (N : Int) X (by omega) (by omega))
  rw [itxt_nat] at T1
  have hn0 : ¬ (N : Int) < 0 := by omega
  clear hg hN
  go_enter Tryz.func6, Tryz.ntmps6
  go_wp2_with fail
  go_at_call 10
  refine CA.out.mono ?_
  rintro e w0 ⟨rfl, hb0⟩
  have HB0 := hid hb0
  clear hb0 CA
  go_wp2_with fail
  go_loopw [5, 6] (fun s x wr => ∃ (D : List UInt8) (x0 : Nat) (A : ByteArray), s = .string A ∧ x = .int .i64 x0 ∧ A.size ≤ 64 ∧ x0 < 9223372036854775808 ∧ Hid (A = mkS D) ∧ Hid (BitI N D x0) ∧ Hid (Below w.heap.size w wr)) (fun s x _ => (intOf x).toNat + (match s with | .string A => if A.size = 0 then 1 else 0 | _ => 0))
  case atStart => exact ⟨[], N, ⟨#[]⟩, rfl, rfl, by decide, HN.out, rfl, bit_start N, HB0.out⟩
  case round =>
    obtain ⟨D, x, A, rfl, rfl, hA, hx, HA, HI, HB⟩ := hrel
    by_cases hgo : 0 < x ∨ A.size = 0
    · have hD : 0 < x ∨ D = [] := hgo.imp id (fun h => by rw [HA.out, mkS_size] at h; exact List.length_eq_zero_iff.1 h)
      have HI2 := hid (bit_step HI.out hD)
      have HA2 := hid (show mkS [UInt8.ofNat (48 + x % 2)] ++ A = mkS (UInt8.ofNat (48 + x % 2) :: D) by rw [HA.out, mkS_add]; rfl)
      have hl2 := bit_len HI2.out HN.out
      have hs2 : (mkS [UInt8.ofNat (48 + x % 2)]).size = 1 := mkS_size _
      have hwq : IntKind.i64.wrap ((x : Int).tdiv 2) = ((x / 2 : Nat) : Int) := by rw [Int.tdiv_eq_ediv_of_nonneg (by omega), wraps_i64 _ (by omega) (by omega)]; omega
      have hwr : (x : Int).tmod 2 = ((x % 2 : Nat) : Int) := by rw [Int.tmod_eq_emod_of_nonneg (by omega)]; omega
      have hm : ((x % 2 : Nat) : Int) < 2 ∧ 0 ≤ ((x % 2 : Nat) : Int) := by omega
      have hwu : IntKind.u8.wrap (48 + ((x % 2 : Nat) : Int)) = 48 + ((x % 2 : Nat) : Int) := by rw [IntKind.wrap_u8]; omega
      have hwa : IntKind.i64.wrap (48 + ((x % 2 : Nat) : Int)) = 48 + ((x % 2 : Nat) : Int) := wraps_i64 _ (by omega) (by omega)
      have hx2 : ((x : Int) / 2).toNat = x / 2 := by omega
      have hcv := conv_new wr [48 + (x : Int) % 2] 1 rfl
      simp only [List.map] at hcv
      have e48 : (48 + (x : Int) % 2).toNat = 48 + x % 2 := by omega
      rw [nums_int, e48] at hcv
      clear e48 hwr hwq hwu hwa hm hx2
      have hwr : (x : Int).tmod 2 = (x : Int) % 2 := Int.tmod_eq_emod_of_nonneg (by omega)
      have hwa : IntKind.i64.wrap (48 + (x : Int) % 2) = 48 + (x : Int) % 2 := wraps_i64 _ (by omega) (by omega)
      have hwu : IntKind.u8.wrap (48 + (x : Int) % 2) = 48 + (x : Int) % 2 := by rw [IntKind.wrap_u8]; omega
      have hwq : IntKind.i64.wrap ((x : Int).tdiv 2) = (x : Int) / 2 := by rw [Int.tdiv_eq_ediv_of_nonneg (by omega), wraps_i64 _ (by omega) (by omega)]
      have hx2 : x / 2 < 9223372036854775808 := by omega
      have hxq : (x : Int) / 2 = ((x / 2 : Nat) : Int) := by omega
      have HZ := hid (show (mkS [UInt8.ofNat (48 + x % 2)] ++ A).size = A.size + 1 by rw [ByteArray.size_append, hs2]; omega)
      have HL := hid (show (mkS [UInt8.ofNat (48 + x % 2)] ++ A).size ≤ 64 by rw [HA2.out, mkS_size]; exact hl2)
      have HM := hid (show ((x : Int) / 2).toNat + 0 < (x : Int).toNat + (if A.size = 0 then 1 else 0) by
        rcases hgo with h | h
        · split <;> omega
        · rw [if_pos h]; omega)
      have hgc : 0 < (x : Int) ∨ (¬ 0 < (x : Int) ∧ (A.toList == []) = true) := by
        rcases hgo with h | h
        · exact Or.inl (by omega)
        · by_cases h2 : x = 0
          · refine Or.inr ⟨by omega, ?_⟩
            rw [HA.out, mkS_size] at h
            rw [str_eq A D (by rw [HA.out, mkS_list]) [], List.length_eq_zero_iff.1 h]; rfl
          · exact Or.inl (by omega)
      clear hD hgo hl2
      generalize mkS [UInt8.ofNat (48 + x % 2)] = M at *
      have h0x : 0 ≤ (x : Int) := by omega
      have h1x : (x : Int) < 9223372036854775808 := by omega
      have HXQ := hid hxq
      clear hxq hx
      generalize (x : Int) = xi at *
      rcases hgc with hxi | ⟨hxi, hq⟩
      all_goals
        go_wp2_with fail
        all_goals
          go_round
          case rel => exact ⟨_, x / 2, M ++ A, rfl, by rw [HXQ.out], HL.out, hx2, HA2.out, HI2.out, eonto HB.out ((Below.refl _ _).alloc (Nat.le_refl _) _)⟩
          case measure =>
            have hz := HZ.out
            simp only [intOf]
            rw [if_neg (show ¬ (M ++ A).size = 0 by omega)]
            exact HM.out
    · have hx0 : x = 0 := by omega
      subst hx0
      have hAs : ¬ A.size = 0 := by omega
      have hDn : D ≠ [] := by intro e; apply hAs; rw [HA.out, e]; rfl
      have HR := hid (bit_end HI.out hDn HN.out)
      have HLd : Hid (A.data.toList = D) := by show _ = _; rw [HA.out, mkS_list]
      have hq := str_eq A D HLd.out []
      rw [decide_eq_false hDn] at hq
      clear hgo hDn hAs HI
      go_wp2_with fail
      go_at_call 23
      refine (T1.out _).mono ?_
      rintro e w1 ⟨rfl, hb1⟩
      have HB1 := hid (eonto HB.out hb1)
      have z1 : (mkS (natD N)).size ≤ 19 := by rw [mkS_size]; have := HN.out; exact natD_short 18 N (by omega)
      have L1 := hid (mkS_list (natD N))
      have HC := hid (cut_of N c)
      clear hb1 HB HB0 T1 hq HA
      generalize mkS (natD N) = X1 at *
      have HCS : Hid (cutS (natD N) c = if 0 < c ∧ c < (X1.size : Int) then X1.data.toList.take c.toNat ++ (95 :: X1.data.toList.drop c.toNat) else X1.data.toList) := by
        show _ = _
        unfold cutS; rw [L1.out, ← size_list X1, L1.out]
      clear L1
      generalize cutS (natD N) c = Q at *
      go_upto_region 11 with fail
      obtain ⟨lp, hlp⟩ : ∃ b, decide (0 < c ∧ c < (X1.size : Int)) = b := ⟨_, rfl⟩
      have HLP := hid hlp.symm
      clear hlp
      go_cut [46] (fun v wx => v = .bool lp ∧ wx = w1)
      case first => as_aux_lemma =>
        by_cases k1 : 0 < c
        · by_cases k2 : c < (X1.size : Int)
          · have HX := hid (show lp = true by rw [HLP.out]; exact decide_eq_true ⟨k1, k2⟩)
            go_wp2_with fail
            go_meet
            exact ⟨congrArg Value.bool (by (try rw [HX.out]) <;> first | done | rfl | exact decide_eq_true (by omega) | exact decide_eq_false (by omega)), rfl⟩
          · have HX := hid (show lp = false by rw [HLP.out]; exact decide_eq_false (fun k => k2 k.2))
            go_wp2_with fail
            go_meet
            exact ⟨congrArg Value.bool (by (try rw [HX.out]) <;> first | done | rfl | exact decide_eq_true (by omega) | exact decide_eq_false (by omega)), rfl⟩
        · have HX := hid (show lp = false by rw [HLP.out]; exact decide_eq_false (fun k => k1 k.1))
          go_wp2_with fail
          go_meet
          exact ⟨congrArg Value.bool (by (try rw [HX.out]) <;> first | done | rfl | exact decide_eq_true (by omega) | exact decide_eq_false (by omega)), rfl⟩
      case rest =>
      obtain ⟨rfl, hw9⟩ := hcut
      obtain rfl := hw9.symm
      go_upto_if 46 with fail
      go_cut [7] (fun v wx => ∃ SS : ByteArray, v = .string SS ∧ Hid (SS.data.toList = Q) ∧ Hid (Below w1.heap.size w1 wx))
      case first => as_aux_lemma =>
        cases lp with
        | true =>
          have hk := of_decide_eq_true HLP.out.symm
          have k1 : 0 < c := hk.1
          have k2 : c < (X1.size : Int) := hk.2
          have HQ := hid HCS.out
          rw [if_pos hk] at HQ
          clear hk HLP HCS
          obtain ⟨m, rfl⟩ : ∃ m : Nat, c = (m : Int) := ⟨c.toNat, by omega⟩
          have hm : m ≤ X1.size := by omega
          have hm0 : 0 < m := by omega
          go_wp2_with fail
          go_quiet (fail)
          go_wp2_with fail
          go_meet
          refine ⟨_, rfl, ?_, tdrew_below _ _⟩
          show _ = _
          rw [HQ.out]
          simp only [iapp, take_str, drop_str, mkS_list, Int.toNat_natCast]
          simp
        | false =>
          have hk := of_decide_eq_false HLP.out.symm
          have HQ := hid HCS.out
          rw [if_neg hk] at HQ
          clear hk HLP HCS
          go_wp2_with fail
          go_meet
          exact ⟨X1, rfl, HQ.out.symm, Below.refl _ _⟩
      case rest =>
      obtain ⟨SS, rfl, LS, hw9⟩ := hcut
      have HB2 := hid (eonto HB1.out hw9.out)
      clear HCS HLP HB1 hw9
      have HNN := HN.out
      have P1 := hid HR.out
      have P2 := hid (tiA HNN HC.out)
      have P3 := hid (tiB HNN HC.out)
      have P4 := hid (tiC HNN HC.out)
      have hql : Q.length ≤ 20 := by
        have := HC.out.len
        have := natD_short 18 N (by omega)
        omega
      have hdl : D.length ≤ 64 := by rw [← HLd.out, size_list]; exact hA
      have hneg : IntKind.i64.wrap (-(N : Int)) = -(N : Int) := by rw [IntKind.wrap_i64]; omega
      have C1 : Hid (∀ X, Below w.heap.size w X → Calls Tryz.prog 11 #[.string (⟨#[48, 98]⟩ ++ A)] X fun e w' => e = .returned (.tuple #[.agg #[.int .i64 2, .int .i64 (N : Int), .string ⟨#[]⟩, nilS, nilS], .int .i64 0]) ∧ Below X.heap.size X w') := fun X h => by
        have e : ((⟨#[48, 98]⟩ ++ A) : ByteArray).data.toList = 48 :: 98 :: D := by simp only [iapp, HLd.out]; rfl
        have := tnumber_any (⟨#[48, 98]⟩ ++ A) X (by rw [← size_list, e]; (try simp only [List.length_cons]); omega) (HG.out.on h)
        rw [e, P1.out.1, P1.out.2] at this; exact this
      have C2 : Hid (∀ X, Below w.heap.size w X → Calls Tryz.prog 11 #[.string SS] X fun e w' => e = .returned (.tuple #[.agg #[.int .i64 2, .int .i64 (N : Int), .string ⟨#[]⟩, nilS, nilS], .int .i64 0]) ∧ Below X.heap.size X w') := fun X h => by
        have e : (SS : ByteArray).data.toList = Q := by exact LS.out
        have := tnumber_any SS X (by rw [← size_list, e]; (try simp only [List.length_cons]); omega) (HG.out.on h)
        rw [e, P2.out.1, P2.out.2] at this; exact this
      have C3 : Hid (∀ X, Below w.heap.size w X → Calls Tryz.prog 11 #[.string (⟨#[43]⟩ ++ SS)] X fun e w' => e = .returned (.tuple #[.agg #[.int .i64 2, .int .i64 (N : Int), .string ⟨#[]⟩, nilS, nilS], .int .i64 0]) ∧ Below X.heap.size X w') := fun X h => by
        have e : ((⟨#[43]⟩ ++ SS) : ByteArray).data.toList = 43 :: Q := by simp only [iapp, LS.out]; rfl
        have := tnumber_any (⟨#[43]⟩ ++ SS) X (by rw [← size_list, e]; (try simp only [List.length_cons]); omega) (HG.out.on h)
        rw [e, P3.out.1, P3.out.2] at this; exact this
      have C4 : Hid (∀ X, Below w.heap.size w X → Calls Tryz.prog 11 #[.string (⟨#[45]⟩ ++ SS)] X fun e w' => e = .returned (.tuple #[.agg #[.int .i64 2, .int .i64 (-(N : Int)), .string ⟨#[]⟩, nilS, nilS], .int .i64 0]) ∧ Below X.heap.size X w') := fun X h => by
        have e : ((⟨#[45]⟩ ++ SS) : ByteArray).data.toList = 45 :: Q := by simp only [iapp, LS.out]; rfl
        have := tnumber_any (⟨#[45]⟩ ++ SS) X (by rw [← size_list, e]; (try simp only [List.length_cons]); omega) (HG.out.on h)
        rw [e, P4.out.1, P4.out.2] at this; exact this
      have hss : SS.size ≤ 20 := by rw [← size_list, LS.out]; exact hql
      clear P1 P2 P3 P4 HR HC LS HLd HG HN hql hdl
      generalize (N : Int) = nn at *
      go_wp2_with fail
      go_at_call 11
      refine (C1.out _ HB2.out).mono ?_
      rintro e y1 ⟨rfl, hb⟩
      have HC1 := hid (vonto HB2.out hb)
      clear hb HB2
      go_upto_region 14 with fail
      refine wp_gen ?_
      intro V1 hW
      have hk := new_cells y1 [.int .i64 2, .int .i64 nn, .string ⟨#[]⟩, .slice none 0 0, .slice none 0 0] 27
      have a0 : V1.cell? ⟨y1.heap.size, 0, none⟩ = some (.int .i64 2) := by rw [hW]; exact (addz _ 0) ▸ hk 0 _ rfl
      have b1 : V1.cell? ⟨y1.heap.size, 1, none⟩ = some (.int .i64 nn) := by rw [hW]; exact (addz _ 1) ▸ hk 1 _ rfl
      have hba : Below y1.heap.size y1 V1 := by rw [hW]; exact valloc_bel (Below.refl _ _) _
      have HD1 := hid (vonto HC1.out hba)
      clear hW hk hba HC1
      go_wp2_with fail
      go_at_call 11
      refine (C2.out _ HD1.out).mono ?_
      rintro e y2 ⟨rfl, hb⟩
      replace a0 := keepCell hb a0
      replace b1 := keepCell hb b1
      have HC2 := hid (vonto HD1.out hb)
      clear hb HD1
      go_upto_region 15 with fail
      refine wp_gen ?_
      intro V2 hW
      have hk := new_cells y2 [.int .i64 2, .int .i64 nn, .string ⟨#[]⟩, .slice none 0 0, .slice none 0 0] 27
      have c1 : V2.cell? ⟨y2.heap.size, 1, none⟩ = some (.int .i64 nn) := by rw [hW]; exact (addz _ 1) ▸ hk 1 _ rfl
      have hba : Below y2.heap.size y2 V2 := by rw [hW]; exact valloc_bel (Below.refl _ _) _
      replace a0 := keepCell hba a0
      replace b1 := keepCell hba b1
      have HD2 := hid (vonto HC2.out hba)
      clear hW hk hba HC2
      go_wp2_with fail
      go_at_call 11
      refine (C3.out _ HD2.out).mono ?_
      rintro e y3 ⟨rfl, hb⟩
      replace a0 := keepCell hb a0
      replace b1 := keepCell hb b1
      replace c1 := keepCell hb c1
      have HC3 := hid (vonto HD2.out hb)
      clear hb HD2
      go_upto_region 16 with fail
      refine wp_gen ?_
      intro V3 hW
      have hk := new_cells y3 [.int .i64 2, .int .i64 nn, .string ⟨#[]⟩, .slice none 0 0, .slice none 0 0] 27
      have d1 : V3.cell? ⟨y3.heap.size, 1, none⟩ = some (.int .i64 nn) := by rw [hW]; exact (addz _ 1) ▸ hk 1 _ rfl
      have hba : Below y3.heap.size y3 V3 := by rw [hW]; exact valloc_bel (Below.refl _ _) _
      replace a0 := keepCell hba a0
      replace b1 := keepCell hba b1
      replace c1 := keepCell hba c1
      have HD3 := hid (vonto HC3.out hba)
      clear hW hk hba HC3
      go_wp2_with fail
      go_at_call 11
      refine (C4.out _ HD3.out).mono ?_
      rintro e y4 ⟨rfl, hb⟩
      replace a0 := keepCell hb a0
      replace b1 := keepCell hb b1
      replace c1 := keepCell hb c1
      replace d1 := keepCell hb d1
      have HC4 := hid (vonto HD3.out hb)
      clear hb HD3
      go_upto_region 17 with fail
      refine wp_gen ?_
      intro V4 hW
      have hk := new_cells y4 [.int .i64 2, .int .i64 (-nn), .string ⟨#[]⟩, .slice none 0 0, .slice none 0 0] 27
      have f1 : V4.cell? ⟨y4.heap.size, 1, none⟩ = some (.int .i64 (-nn)) := by rw [hW]; exact (addz _ 1) ▸ hk 1 _ rfl
      have hba : Below y4.heap.size y4 V4 := by rw [hW]; exact valloc_bel (Below.refl _ _) _
      replace a0 := keepCell hba a0
      replace b1 := keepCell hba b1
      replace c1 := keepCell hba c1
      replace d1 := keepCell hba d1
      have HD4 := hid (vonto HC4.out hba)
      clear hW hk hba HC4
      clear C1 C2 C3 C4
      go_wp2_with fail
      go_ret
      exact ⟨rfl, HD4.out⟩
set_option maxRecDepth 100000 in
set_option maxHeartbeats 4000000 in
theorem Tryz.tlexInts_walk (n c : Int) (w0 : (Lit.int .i64 n).wf = true) (_w1 : (Lit.int .i64 c).wf = true) (w : World) (hg : GlobN w) :
    Calls Tryz.prog 6 #[.int .i64 n, .int .i64 c] w fun e w' => e = .returned (.bool true) ∧ Below w.heap.size w w' := by
  have hb := iwf_bd w0
  by_cases hin : 0 ≤ n
  · obtain ⟨N, rfl⟩ : ∃ N : Nat, n = (N : Int) := ⟨n.toNat, by omega⟩
    exact ints_in N c (by omega) w hg
  · have CA := hid (awake10 w hg)
    have h : n < 0 := by omega
    clear hb hin
    go_enter Tryz.func6, Tryz.ntmps6
    go_wp2_with (go_at_call 10; go_must (refine CA.out.mono ?_; rintro e w0 ⟨rfl, hb0⟩))
    go_ret
    exact ⟨rfl, hb0⟩
end Go.Proofs.YtdlideihlcjblaaGreatDoor
