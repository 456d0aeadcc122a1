/- esc.tomlEscape, oneEscaped, folded, manyEscaped: walked. -/
import Derived.Test.YtikdggcdgdokiaaDoorEscE
namespace Go.Proofs.YtikdggcdgdokiaaDoor
open Go.RowKit

theorem esc_U (l : List UInt8) (h1 : bt l 1 = 85) : escP true l = escU true l 8 := by
  unfold escP
  rw [h1]
  have : nmV true 85 = 256 := by unfold nmV; simp
  rw [this, if_neg (by omega), if_pos ⟨rfl, rfl⟩]
theorem escT_good {l : List UInt8} {n : Nat} (h0 : 0 ≤ cdI l 2 n) (h : goodB (cdI l 2 n) = true) : escU true l n = (ltr (cdI l 2 n), 2 + n) := by unfold escU; rw [if_pos ⟨h0, h⟩]
theorem escT_bad {l : List UInt8} {n : Nat} (h : goodB (cdI l 2 n) = false) : escU true l n = ([], 0) := by unfold escU; rw [if_neg (by rw [h]; simp), if_neg (by simp)]
theorem nm_none (toml : Bool) (l : List UInt8) (h : bt l 1 = 117 ∨ bt l 1 = 85) : nmP toml l = ([], 0) := by
  unfold nmP
  have : nmV toml (bt l 1) = 256 := by rcases h with h | h <;> rw [h] <;> (unfold nmV; simp)
  rw [this, if_neg (by omega)]
/-- what tomlEscape's two looks for digits find -/
theorem dig_no {l : List UInt8} {c k : Nat} {e : Ending} (h : DigPost l c k e) (hn : ¬ dgOk l c k) : e = .returned (.tuple #[.int .i64 0, .int .i64 0]) := by
  rcases h with ⟨h, -⟩ | ⟨-, h⟩
  · exact absurd h hn
  · exact h
theorem dig_yes {l : List UInt8} {c k : Nat} {e : Ending} (h : DigPost l c k e) (hn : dgOk l c k) : e = .returned (.tuple #[.int .i64 (cdI l 2 k), .int .i64 ((2 + k : Nat) : Int)]) := by
  rcases h with ⟨-, h⟩ | ⟨h, -⟩
  · exact h
  · exact absurd hn h
set_option maxRecDepth 100000 in
set_option maxHeartbeats 2000000 in
theorem tesc_any (s : ByteArray) (w : World) (hs : s.size ≤ maxLen) (h92 : bt s.data.toList 0 = 92) :
    Calls Tryd.prog 51 #[.string s] w fun e w' => e = .returned (.tuple #[.string (mkS (escP true s.data.toList).1), .int .i64 ((escP true s.data.toList).2 : Nat)]) ∧ Below w.heap.size w w' := by
  have HD4 : Hid (∀ X, Calls Tryd.prog 57 #[.string s, .int .u8 117, .int .i64 4] X fun e w' => DigPost s.data.toList 117 4 e ∧ Below X.heap.size X w') := fun X => dig_any s 117 4 X hs (by omega) (by omega)
  have HD8 : Hid (∀ X, Calls Tryd.prog 57 #[.string s, .int .u8 85, .int .i64 8] X fun e w' => DigPost s.data.toList 85 8 e ∧ Below X.heap.size X w') := fun X => dig_any s 85 8 X hs (by omega) (by omega)
  have HN := hid (fun X => named_any true s ⟨#[34, 92, 98, 116, 110, 102, 114, 101]⟩ ⟨#[34, 92, 8, 9, 10, 12, 13, 27]⟩ X hs nm_toml)
  have hv1 := cdI_lt s.data.toList 2 4
  have hv2 := cdI_lt s.data.toList 2 8
  unfold maxLen at hs
  by_cases k4 : dgOk s.data.toList 117 4
  · have h117 : bt s.data.toList 1 = 117 := k4.2.1
    have hv0 : 0 ≤ cdI s.data.toList 2 4 := k4.2.2
    have HD : Hid (∀ X, Calls Tryd.prog 57 #[.string s, .int .u8 117, .int .i64 4] X fun e w' => e = .returned (.tuple #[.int .i64 (cdI s.data.toList 2 4), .int .i64 6]) ∧ Below X.heap.size X w') := fun X => (HD4.out X).mono fun e w' ⟨h, hb⟩ => ⟨dig_yes h k4, hb⟩
    have HE := hid (esc_u true _ h117)
    clear HD4 HD8 HN k4
    cases hg : goodB (cdI s.data.toList 2 4) with
    | true =>
      have HR := hid (HE.out.trans (escT_good hv0 hg))
      have HG := hid (fun X => good_any (cdI s.data.toList 2 4) X)
      rw [hg] at HG
      clear HE hg h92 h117
      generalize escP true s.data.toList = R at HR ⊢
      generalize cdI s.data.toList 2 4 = v at *
      go_enter Tryd.func51, Tryd.ntmps51
      go_wp2_with (first
        | (go_at_call 57; go_must ((with_reducible refine (HD.out _).mono ?_); rintro e w1 ⟨rfl, hb1⟩))
        | (go_at_call 60; go_must (refine (HG.out _).mono ?_; rintro e w2 ⟨rfl, rfl⟩))
        | (go_at_call 55; go_must (refine (letter_any _ _).mono ?_; rintro e w3 ⟨rfl, hb3⟩)))
      go_ret2
      exact ⟨ret_sn (by rw [HR.out]) (by rw [HR.out]; rfl), eonto hb1 hb3⟩
    | false =>
      have HR := hid (HE.out.trans (escT_bad hg))
      have HG := hid (fun X => good_any (cdI s.data.toList 2 4) X)
      rw [hg] at HG
      clear HE hg h92 h117
      generalize escP true s.data.toList = R at HR ⊢
      generalize cdI s.data.toList 2 4 = v at *
      go_enter Tryd.func51, Tryd.ntmps51
      go_wp2_with (first
        | (go_at_call 57; go_must ((with_reducible refine (HD.out _).mono ?_); rintro e w1 ⟨rfl, hb1⟩))
        | (go_at_call 60; go_must (refine (HG.out _).mono ?_; rintro e w2 ⟨rfl, rfl⟩)))
      go_ret2
      exact ⟨ret_sn (by rw [HR.out]; rfl) (by rw [HR.out]; rfl), hb1⟩
  · have HD : Hid (∀ X, Calls Tryd.prog 57 #[.string s, .int .u8 117, .int .i64 4] X fun e w' => e = .returned (.tuple #[.int .i64 0, .int .i64 0]) ∧ Below X.heap.size X w') := fun X => (HD4.out X).mono fun e w' ⟨h, hb⟩ => ⟨dig_no h k4, hb⟩
    clear HD4
    by_cases k8 : dgOk s.data.toList 85 8
    · have h85 : bt s.data.toList 1 = 85 := k8.2.1
      have hv0 : 0 ≤ cdI s.data.toList 2 8 := k8.2.2
      have HDD : Hid (∀ X, Calls Tryd.prog 57 #[.string s, .int .u8 85, .int .i64 8] X fun e w' => e = .returned (.tuple #[.int .i64 (cdI s.data.toList 2 8), .int .i64 10]) ∧ Below X.heap.size X w') := fun X => (HD8.out X).mono fun e w' ⟨h, hb⟩ => ⟨dig_yes h k8, hb⟩
      have HE := hid (esc_U _ h85)
      clear HD8 HN k8 k4
      cases hg : goodB (cdI s.data.toList 2 8) with
      | true =>
        have HR := hid (HE.out.trans (escT_good hv0 hg))
        have HG := hid (fun X => good_any (cdI s.data.toList 2 8) X)
        rw [hg] at HG
        clear HE hg h92 h85
        generalize escP true s.data.toList = R at HR ⊢
        generalize cdI s.data.toList 2 8 = v at *
        go_enter Tryd.func51, Tryd.ntmps51
        go_wp2_with (first
          | (go_at_call 57; go_must (first | ((with_reducible refine (HDD.out _).mono ?_); rintro e w2 ⟨rfl, hb2⟩) | ((with_reducible refine (HD.out _).mono ?_); rintro e w1 ⟨rfl, hb1⟩)))
          | (go_at_call 60; go_must (refine (HG.out _).mono ?_; rintro e w3 ⟨rfl, rfl⟩))
          | (go_at_call 55; go_must (refine (letter_any _ _).mono ?_; rintro e w3 ⟨rfl, hb3⟩)))
        go_ret2
        exact ⟨ret_sn (by rw [HR.out]) (by rw [HR.out]; rfl), eonto (eonto hb1 hb2) hb3⟩
      | false =>
        have HR := hid (HE.out.trans (escT_bad hg))
        have HG := hid (fun X => good_any (cdI s.data.toList 2 8) X)
        rw [hg] at HG
        clear HE hg h92 h85
        generalize escP true s.data.toList = R at HR ⊢
        generalize cdI s.data.toList 2 8 = v at *
        go_enter Tryd.func51, Tryd.ntmps51
        go_wp2_with (first
          | (go_at_call 57; go_must (first | ((with_reducible refine (HDD.out _).mono ?_); rintro e w2 ⟨rfl, hb2⟩) | ((with_reducible refine (HD.out _).mono ?_); rintro e w1 ⟨rfl, hb1⟩)))
          | (go_at_call 60; go_must (refine (HG.out _).mono ?_; rintro e w3 ⟨rfl, rfl⟩)))
        go_ret2
        exact ⟨ret_sn (by rw [HR.out]; rfl) (by rw [HR.out]; rfl), eonto hb1 hb2⟩
    · have HDD : Hid (∀ X, Calls Tryd.prog 57 #[.string s, .int .u8 85, .int .i64 8] X fun e w' => e = .returned (.tuple #[.int .i64 0, .int .i64 0]) ∧ Below X.heap.size X w') := fun X => (HD8.out X).mono fun e w' ⟨h, hb⟩ => ⟨dig_no h k8, hb⟩
      have HR := hid (show escP true s.data.toList = nmP true s.data.toList by
        by_cases h117 : bt s.data.toList 1 = 117
        · rw [nm_none _ _ (Or.inl h117), esc_u _ _ h117]
          refine escT_bad (good_no (Or.inl ?_))
          by_cases hc : cdI s.data.toList 2 4 < 0
          · exact hc
          · exact absurd ⟨h92, h117, by omega⟩ k4
        · by_cases h85 : bt s.data.toList 1 = 85
          · rw [nm_none _ _ (Or.inr h85), esc_U _ h85]
            refine escT_bad (good_no (Or.inl ?_))
            by_cases hc : cdI s.data.toList 2 8 < 0
            · exact hc
            · exact absurd ⟨h92, h85, by omega⟩ k8
          · exact esc_nmT _ h117 h85)
      clear HD8 k4 k8 hv1 hv2 h92
      generalize escP true s.data.toList = R at HR ⊢
      go_enter Tryd.func51, Tryd.ntmps51
      go_wp2_with (first
        | (go_at_call 57; go_must (first | ((with_reducible refine (HDD.out _).mono ?_); rintro e w2 ⟨rfl, hb2⟩) | ((with_reducible refine (HD.out _).mono ?_); rintro e w1 ⟨rfl, hb1⟩)))
        | (go_at_call 47; go_must (refine (HN.out _).mono ?_; rintro e w3 ⟨rfl, rfl⟩)))
      go_ret2
      exact ⟨ret_sn (by rw [HR.out]) (by rw [HR.out]), eonto hb1 hb2⟩
set_option maxRecDepth 100000 in
set_option maxHeartbeats 1000000 in
theorem oescaped_any : PieceOf 33 oeP := by
  intro s w hs h0
  have HO := hid (fun X => oplain_any s X hs h0)
  have HT := hid (fun X h => tesc_any s X hs h)
  unfold maxLen at hs
  have B0 := hid (bt_at s 0 h0)
  by_cases h92 : s[0].toNat = 92
  · have HE := hid (show oeP s.data.toList = escP true s.data.toList by unfold oeP; rw [if_pos (by rw [B0.out]; exact h92)])
    have HTT := hid (fun X => HT.out X (by rw [B0.out]; exact h92))
    have g : (s[0].toNat : Int) = 92 := by omega
    clear h92 HT HO
    go_enter Tryd.func33, Tryd.ntmps33
    go_wp2_with (go_at_call 51; go_must (refine (HTT.out _).mono ?_; rintro e w2 ⟨rfl, hb2⟩))
    go_ret2
    exact ⟨ret_sn (by rw [HE.out]) (by rw [HE.out]), hb2⟩
  · have HE := hid (show oeP s.data.toList = opP s.data.toList by unfold oeP; rw [if_neg (by rw [B0.out]; exact h92)])
    have g : ¬ (s[0].toNat : Int) = 92 := by omega
    clear h92 HT
    go_enter Tryd.func33, Tryd.ntmps33
    go_wp2_with (go_at_call 34; go_must (refine (HO.out _).mono ?_; rintro e w2 ⟨rfl, hb2⟩))
    go_ret2
    exact ⟨ret_sn (by rw [HE.out]) (by rw [HE.out]), hb2⟩
theorem dropW (p : UInt8 → Bool) (l : List UInt8) : l.dropWhile p = l.drop (run p l) := by
  unfold run
  induction l with
  | nil => rfl
  | cons a t ih =>
    rw [List.dropWhile_cons, List.takeWhile_cons]
    by_cases h : p a = true
    · rw [if_pos h, if_pos h, ih]; rfl
    · rw [if_neg h, if_neg h]; rfl
theorem run_le (p : UInt8 → Bool) (l : List UInt8) : run p l ≤ l.length := by
  unfold run
  exact (List.takeWhile_prefix p).length_le
theorem bk_in : (fun b => ([32, 9] : List UInt8).contains b) = bkB := by
  funext b
  unfold bkB
  rw [Bool.eq_iff_iff]
  simp [← UInt8.toNat_inj]
theorem bl_in : (fun b => ([32, 9, 13, 10] : List UInt8).contains b) = blB := by
  funext b
  unfold blB
  rw [Bool.eq_iff_iff]
  simp [← UInt8.toNat_inj]
  omega
theorem Tryd.trimL (s cs : ByteArray) (w : World) (h : cs.size ≤ 4) (ha : ∀ (j : Nat) b, cs.data.toList[j]? = some b → b.toNat < 128) :
    Calls Tryd.prog 59 #[.string s, .string cs] w fun e w' => e = .returned (.string (mkS (Lib.trimLeftS s.data.toList cs.data.toList))) ∧ Below w.heap.size w w' :=
  Any.strings_TrimLeft_laid Tryd.lays161 (by kernel_rfl) s cs w (by omega) ha
set_option maxRecDepth 100000 in
set_option maxHeartbeats 1000000 in
theorem folded_any (s : ByteArray) (w : World) (hs : s.size ≤ maxLen) (h0 : 0 < s.size) :
    Calls Tryd.prog 50 #[.string s] w fun e w' => e = .returned (.int .i64 (fdN s.data.toList : Nat)) ∧ Below w.heap.size w w' := by
  unfold maxLen at hs
  obtain ⟨u, hu⟩ : ∃ u, s.extract 1 s.size = u := ⟨_, rfl⟩
  have hul : u.data.toList = s.data.toList.drop 1 := by rw [← hu, drop_list]
  obtain ⟨x, hx⟩ : ∃ x, mkS ((s.data.toList.drop 1).drop (run bkB (s.data.toList.drop 1))) = x := ⟨_, rfl⟩
  have hxl : x.data.toList = (s.data.toList.drop 1).drop (run bkB (s.data.toList.drop 1)) := by rw [← hx, mkS_list]
  obtain ⟨y, hy⟩ : ∃ y, mkS (x.data.toList.drop (run blB x.data.toList)) = y := ⟨_, rfl⟩
  have HT1 : Hid (∀ X, Calls Tryd.prog 59 #[.string u, .string ⟨#[32, 9]⟩] X fun e w' => e = .returned (.string x) ∧ Below X.heap.size X w') := fun X => by
    have := Tryd.trimL u ⟨#[32, 9]⟩ X (by decide) (by intro j b h; match j, h with | 0, h => cases h; decide | 1, h => cases h; decide | j + 2, h => simp at h)
    rw [show (⟨#[32, 9]⟩ : ByteArray).data.toList = [32, 9] from rfl, Lib.trimLeftS, bk_in, dropW, hul, hx] at this; exact this
  have HT2 : Hid (∀ X, Calls Tryd.prog 59 #[.string x, .string ⟨#[32, 9, 13, 10]⟩] X fun e w' => e = .returned (.string y) ∧ Below X.heap.size X w') := fun X => by
    have := Tryd.trimL x ⟨#[32, 9, 13, 10]⟩ X (by decide) (by intro j b h; match j, h with | 0, h => cases h; decide | 1, h => cases h; decide | 2, h => cases h; decide | 3, h => cases h; decide | j + 4, h => simp at h)
    rw [show (⟨#[32, 9, 13, 10]⟩ : ByteArray).data.toList = [32, 9, 13, 10] from rfl, Lib.trimLeftS, bl_in, dropW, hy] at this; exact this
  have HL := hid (fun X => line_any x X)
  have hxs : x.size = s.size - 1 - run bkB (s.data.toList.drop 1) := by rw [← size_list, hxl, List.length_drop, List.length_drop, size_list]
  have hys : y.size = x.size - run blB x.data.toList := by rw [← size_list, ← hy, mkS_list, List.length_drop, size_list]
  have hr1 := run_le bkB (s.data.toList.drop 1)
  have hr2 := run_le blB x.data.toList
  have HF := hid (show fdN s.data.toList = if lnE x.data.toList = 0 then 0 else 1 + run bkB (s.data.toList.drop 1) + run blB x.data.toList by unfold fdN; rw [hxl])
  rw [size_list] at hr2
  rw [List.length_drop, size_list] at hr1
  clear hxl hul hx hy
  generalize run bkB (s.data.toList.drop 1) = a at *
  generalize run blB x.data.toList = b at *
  have HSZ := hid (show lnE x.data.toList ≠ 0 → (fdN s.data.toList : Int) = (s.size : Int) - (y.size : Int) by
    intro h; rw [HF.out, if_neg h]; omega)
  have hyle : y.size ≤ s.size := by omega
  have HZ := hid (show lnE x.data.toList = 0 → fdN s.data.toList = 0 by intro h; rw [HF.out, if_pos h])
  clear HF hxs hys hr1 hr2
  generalize fdN s.data.toList = F at *
  generalize lnE x.data.toList = n at *
  by_cases hn : n = 0
  · have HZ0 := hid (HZ.out hn)
    subst hn
    clear HSZ HZ
    go_enter Tryd.func50, Tryd.ntmps50
    go_wp2_with (first
      | (go_at_call 59; go_must (first | ((with_reducible refine (HT2.out _).mono ?_); rintro e w3 ⟨rfl, hb3⟩) | ((with_reducible refine (HT1.out _).mono ?_); rintro e w1 ⟨rfl, hb1⟩)))
      | (go_at_call 29; go_must (refine (HL.out _).mono ?_; rintro e w2 ⟨rfl, rfl⟩)))
    go_ret
    exact ⟨ret_int (by rw [HZ0.out]; rfl), hb1⟩
  · have HZ0 := hid (HSZ.out hn)
    have hn' : ((n : Int) == 0) = false := by rw [beq_eq_false_iff_ne]; omega
    clear HSZ HZ hn
    go_enter Tryd.func50, Tryd.ntmps50
    go_wp2_with (first
      | (go_at_call 59; go_must (first | ((with_reducible refine (HT2.out _).mono ?_); rintro e w3 ⟨rfl, hb3⟩) | ((with_reducible refine (HT1.out _).mono ?_); rintro e w1 ⟨rfl, hb1⟩)))
      | (go_at_call 29; go_must (refine (HL.out _).mono ?_; rintro e w2 ⟨rfl, rfl⟩)))
    go_ret
    exact ⟨ret_int (by rw [HZ0.out]), eonto hb1 hb3⟩
set_option maxRecDepth 100000 in
set_option maxHeartbeats 1000000 in
theorem mescaped_any : PieceOf 31 meP := by
  intro s w hs h0
  have HO := hid (fun X => mplain_any s X hs h0)
  have HT := hid (fun X h => tesc_any s X hs h)
  have HF := hid (fun X => folded_any s X hs h0)
  unfold maxLen at hs
  have B0 := hid (bt_at s 0 h0)
  by_cases h92 : s[0].toNat = 92
  · have HTT := hid (fun X => HT.out X (by rw [B0.out]; exact h92))
    have g : (s[0].toNat : Int) = 92 := by omega
    by_cases hn : 0 < fdN s.data.toList
    · have HE := hid (show meP s.data.toList = ([], fdN s.data.toList) by unfold meP; rw [if_pos (by rw [B0.out]; exact h92), if_pos hn])
      clear h92 HT HO HTT
      generalize fdN s.data.toList = n at *
      go_enter Tryd.func31, Tryd.ntmps31
      go_wp2_with (go_at_call 50; go_must (refine (HF.out _).mono ?_; rintro e w2 ⟨rfl, hb2⟩))
      go_ret2
      exact ⟨ret_sn (by rw [HE.out]; rfl) (by rw [HE.out]), hb2⟩
    · have HE := hid (show meP s.data.toList = escP true s.data.toList by unfold meP; rw [if_pos (by rw [B0.out]; exact h92), if_neg hn])
      have hn0 : fdN s.data.toList = 0 := by omega
      rw [hn0] at HF
      clear h92 HT HO hn hn0
      go_enter Tryd.func31, Tryd.ntmps31
      go_wp2_with (first
        | (go_at_call 50; go_must (refine (HF.out _).mono ?_; rintro e w2 ⟨rfl, hb2⟩))
        | (go_at_call 51; go_must (refine (HTT.out _).mono ?_; rintro e w3 ⟨rfl, hb3⟩)))
      go_ret2
      exact ⟨ret_sn (by rw [HE.out]) (by rw [HE.out]), eonto hb2 hb3⟩
  · have HE := hid (show meP s.data.toList = mpP s.data.toList by unfold meP; rw [if_neg (by rw [B0.out]; exact h92)])
    have g : ¬ (s[0].toNat : Int) = 92 := by omega
    clear h92 HT HF
    go_enter Tryd.func31, Tryd.ntmps31
    go_wp2_with (go_at_call 32; go_must (refine (HO.out _).mono ?_; rintro e w2 ⟨rfl, hb2⟩))
    go_ret2
    exact ⟨ret_sn (by rw [HE.out]) (by rw [HE.out]), hb2⟩
end Go.Proofs.YtikdggcdgdokiaaDoor
