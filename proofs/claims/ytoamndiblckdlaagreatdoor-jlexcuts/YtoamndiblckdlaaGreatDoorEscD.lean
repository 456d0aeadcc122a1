/- esc.jsonUnits, jsonPiece: walked. -/
import Derived.Test.YtoamndiblckdlaaGreatDoorEscC
namespace Go.Proofs.YtoamndiblckdlaaGreatDoor
open Go.RowKit

def nmT (toml : Bool) (names said : List UInt8) (n : Nat) : Bool :=
  (decide (Lib.indexByte names (UInt8.ofNat n) = -1) && decide (nmV toml n = 256)) ||
  (decide (0 ≤ Lib.indexByte names (UInt8.ofNat n)) && decide (Lib.indexByte names (UInt8.ofNat n) < 8) && decide (nmV toml n < 256) && decide (said[(Lib.indexByte names (UInt8.ofNat n)).toNat]? = some (UInt8.ofNat (nmV toml n))))
theorem nm_of (toml : Bool) (names said : ByteArray) (h8 : names.size = 8) (h8' : said.size = 8) (h : ∀ n < 256, nmT toml names.data.toList said.data.toList n = true) : nmIs toml names said := by
  refine ⟨by omega, by omega, fun b => ?_⟩
  have h1 := h b.toNat b.toNat_lt
  have e : UInt8.ofNat b.toNat = b := by simp
  unfold nmT at h1
  rw [e] at h1
  simp only [Bool.or_eq_true, Bool.and_eq_true, decide_eq_true_eq] at h1
  rcases h1 with h1 | ⟨⟨⟨h1, h2⟩, h3⟩, h4⟩
  · exact Or.inl h1
  · refine Or.inr ⟨(Lib.indexByte names.data.toList b).toNat, by omega, by omega, h3, ?_⟩
    refine mkS_of _ _ ?_
    rw [drop_ext, Nat.add_sub_cancel_left, List.take_one, List.head?_drop, h4]; rfl
set_option maxRecDepth 100000 in
theorem nm_json : nmIs false ⟨#[34, 92, 47, 98, 102, 110, 114, 116]⟩ ⟨#[34, 92, 47, 8, 12, 10, 13, 9]⟩ := nm_of _ _ _ rfl rfl (by decide +kernel)
set_option maxRecDepth 100000 in
theorem nm_toml : nmIs true ⟨#[34, 92, 98, 116, 110, 102, 114, 101]⟩ ⟨#[34, 92, 8, 9, 10, 12, 13, 27]⟩ := nm_of _ _ _ rfl rfl (by decide +kernel)
theorem cdI_drop (l : List UInt8) (i k n : Nat) (hn : 1 ≤ n) : cdI (l.drop i) k n = cdI l (i + k) n := by
  unfold cdI
  rw [List.drop_drop, List.length_drop]
  by_cases h : k + n ≤ l.length - i
  · by_cases hb : hexB ((l.drop (i + k)).take n) = true
    · rw [if_pos ⟨h, hb⟩, if_pos ⟨by omega, hb⟩]
    · rw [if_neg (fun hc => hb hc.2), if_neg (fun hc => hb hc.2)]
  · rw [if_neg (fun hc => h hc.1), if_neg (fun hc => h (by omega))]
theorem esc_u (toml : Bool) (l : List UInt8) (h1 : bt l 1 = 117) : escP toml l = escU toml l 4 := by
  unfold escP
  rw [h1]
  have : nmV toml 117 = 256 := by unfold nmV; simp
  rw [this, if_neg (by omega), if_neg (by omega), if_pos rfl]
theorem good_no {r : Int} (h : r < 0 ∨ 55296 ≤ r ∧ r ≤ 57343) : goodB r = false := by unfold goodB; exact decide_eq_false (by omega)
theorem good_yes {r : Int} (h0 : 0 ≤ r) (h : r < 55296 ∨ 57343 < r) (h1 : r ≤ 1114111) : goodB r = true := by unfold goodB; exact decide_eq_true (by omega)
theorem escU_none {l : List UInt8} (h : cdI l 2 4 < 0 ∨ 56320 ≤ cdI l 2 4 ∧ cdI l 2 4 ≤ 57343) : escU false l 4 = ([], 0) := by
  unfold escU
  rw [good_no (by omega), if_neg (by simp), if_neg (by omega)]
theorem escU_one {toml : Bool} {l : List UInt8} (h0 : 0 ≤ cdI l 2 4) (h : cdI l 2 4 < 55296 ∨ 57343 < cdI l 2 4) : escU toml l 4 = (ltr (cdI l 2 4), 6) := by
  have h9 := cdI_lt4 l 2
  unfold escU
  rw [good_yes h0 h (by omega), if_pos ⟨h0, rfl⟩]
theorem escU_half {l : List UInt8} (h0 : 55296 ≤ cdI l 2 4) (h1 : cdI l 2 4 < 56320) (h : ¬ (dgOk (l.drop 6) 117 4 ∧ 56320 ≤ cdI (l.drop 6) 2 4 ∧ cdI (l.drop 6) 2 4 ≤ 57343)) : escU false l 4 = ([], 0) := by
  unfold dgOk at h
  rw [cdI_drop _ _ _ _ (by omega), bt_drop, bt_drop] at h
  simp only [Nat.reduceAdd] at h
  unfold escU
  rw [good_no (by omega), if_neg (by simp), if_neg]
  rintro ⟨-, -, -, q1, q2, q3, q4⟩
  exact h ⟨⟨q1, q2, by omega⟩, q3, by omega⟩
theorem escU_two {l : List UInt8} (h0 : 55296 ≤ cdI l 2 4) (h1 : cdI l 2 4 < 56320) (h : dgOk (l.drop 6) 117 4) (h2 : 56320 ≤ cdI (l.drop 6) 2 4) (h3 : cdI (l.drop 6) 2 4 ≤ 57343) :
    escU false l 4 = (ltr (65536 + (cdI l 2 4 - 55296) * 1024 + cdI (l.drop 6) 2 4 - 56320), 12) := by
  unfold dgOk at h
  rw [cdI_drop _ _ _ _ (by omega)] at h h2 h3 ⊢
  rw [bt_drop, bt_drop] at h
  simp only [Nat.reduceAdd] at h h2 h3 ⊢
  unfold escU
  rw [good_no (by omega), if_neg (by simp), if_pos ⟨rfl, h0, h1, h.1, h.2.1, h2, by omega⟩]
set_option maxRecDepth 100000 in
set_option maxHeartbeats 2000000 in
theorem units_any (s : ByteArray) (w : World) (hs : s.size ≤ maxLen) (h0 : bt s.data.toList 0 = 92) (h1 : bt s.data.toList 1 = 117) :
    Calls Tryz.prog 72 #[.string s] w fun e w' => e = .returned (.tuple #[.string (mkS (escP false s.data.toList).1), .int .i64 ((escP false s.data.toList).2 : Nat)]) ∧ Below w.heap.size w w' := by
  rw [esc_u false _ h1]
  have HS := hid hs
  unfold maxLen at hs
  have hd1 : ∀ X, Calls Tryz.prog 83 #[.string s, .int .u8 117, .int .i64 4] X fun e w' => DigPost s.data.toList 117 4 e ∧ Below X.heap.size X w' := fun X => dig_any s 117 4 X HS.out (by omega) (by omega)
  have hd2 : ∀ X, Calls Tryz.prog 83 #[.string (s.extract 6 s.size), .int .u8 117, .int .i64 4] X fun e w' => DigPost (s.data.toList.drop 6) 117 4 e ∧ Below X.heap.size X w' := fun X => by
    have := dig_any (s.extract 6 s.size) 117 4 X (cut_size s 6 HS.out) (by omega) (by omega)
    rw [drop_list] at this; exact this
  have hv1 := cdI_ge s.data.toList 2 4
  have hv2 := cdI_lt4 s.data.toList 2
  have ho1 := cdI_ge (s.data.toList.drop 6) 2 4
  have ho2 := cdI_lt4 (s.data.toList.drop 6) 2
  have E1 := hid (@escU_none s.data.toList)
  have E2 := hid (@escU_one false s.data.toList)
  have E3 := hid (@escU_half s.data.toList)
  have E4 := hid (@escU_two s.data.toList)
  have HN6 := hid (show dgOk s.data.toList 117 4 → 6 ≤ s.size ∧ 0 ≤ cdI s.data.toList 2 4 from fun h => by
    have h2 := h.2.2
    by_cases hl : s.data.toList.length < 2 + 4
    · rw [cdI_short _ _ _ hl] at h2; omega
    · rw [size_list] at hl; exact ⟨by omega, h2⟩)
  have HD1 : Hid (∀ X, Calls Tryz.prog 83 #[.string s, .int .u8 117, .int .i64 4] X fun e w' => DigPost s.data.toList 117 4 e ∧ Below X.heap.size X w') := hd1
  have HD2 : Hid (∀ X, Calls Tryz.prog 83 #[.string (s.extract 6 s.size), .int .u8 117, .int .i64 4] X fun e w' => DigPost (s.data.toList.drop 6) 117 4 e ∧ Below X.heap.size X w') := hd2
  clear hd1 hd2
  obtain ⟨u, hu⟩ : ∃ u, s.extract 6 s.size = u := ⟨_, rfl⟩
  rw [hu] at HD2
  have HV := hid (show ¬ dgOk s.data.toList 117 4 → cdI s.data.toList 2 4 < 0 from fun h => by
    by_cases hc : cdI s.data.toList 2 4 < 0
    · exact hc
    · exact absurd ⟨h0, h1, by omega⟩ h)
  generalize escU false s.data.toList 4 = R at E1 E2 E3 E4 ⊢
  unfold DigPost at HD1 HD2
  generalize hok : dgOk s.data.toList 117 4 = ok at HD1 HV HN6
  clear hok
  generalize dgOk (s.data.toList.drop 6) 117 4 = ok2 at HD2 E3 E4
  generalize cdI s.data.toList 2 4 = v at *
  generalize cdI (s.data.toList.drop 6) 2 4 = o at *
  by_cases hk : ok
  · obtain ⟨hs6, hv0⟩ := HN6.out hk
    have HD : Hid (∀ X, Calls Tryz.prog 83 #[.string s, .int .u8 117, .int .i64 4] X fun e w' => e = .returned (.tuple #[.int .i64 v, .int .i64 6]) ∧ Below X.heap.size X w') := fun X => (HD1.out X).mono fun e w' ⟨h, hb⟩ => ⟨by
      rcases h with ⟨-, h⟩ | ⟨h, -⟩
      · exact h
      · exact absurd hk h, hb⟩
    clear HD1 HV HN6
    by_cases hm : 56320 ≤ v ∧ v ≤ 57343
    · have HR := hid (E1.out (Or.inr hm))
      obtain ⟨hm1, hm2⟩ := hm
      clear E1 E2 E3 E4 HD2
      go_enter Tryz.func72, Tryz.ntmps72
      go_wp2_with (go_at_call 83; go_must (refine (HD.out _).mono ?_; rintro e w1 ⟨rfl, hb1⟩))
      go_ret2
      exact ⟨ret_sn (by rw [HR.out]; rfl) (by rw [HR.out]; rfl), hb1⟩
    · by_cases hg : v < 55296 ∨ 57343 < v
      · have HR := hid (E2.out hv0 hg)
        clear E1 E2 E3 E4 HD2 hm
        rcases hg with hg | hg
        all_goals
          go_enter Tryz.func72, Tryz.ntmps72
          go_wp2_with (first
            | (go_at_call 83; go_must (refine (HD.out _).mono ?_; rintro e w1 ⟨rfl, hb1⟩))
            | (go_at_call 84; go_must (refine (letter_any _ _).mono ?_; rintro e w2 ⟨rfl, hb2⟩)))
          go_ret2
          exact ⟨ret_sn (by rw [HR.out]) (by rw [HR.out]; rfl), eonto hb1 hb2⟩
      · have hg1 : 55296 ≤ v := by omega
        have hg2 : v < 56320 := by omega
        clear hm hg E1 E2
        by_cases hk2 : ok2
        · have HDD : Hid (∀ X, Calls Tryz.prog 83 #[.string u, .int .u8 117, .int .i64 4] X fun e w' => e = .returned (.tuple #[.int .i64 o, .int .i64 6]) ∧ Below X.heap.size X w') := fun X => (HD2.out X).mono fun e w' ⟨h, hb⟩ => ⟨by
            rcases h with ⟨-, h⟩ | ⟨h, -⟩
            · exact h
            · exact absurd hk2 h, hb⟩
          clear HD2
          by_cases ho : 56320 ≤ o ∧ o ≤ 57343
          · have HR := hid (E4.out hg1 hg2 hk2 ho.1 ho.2)
            obtain ⟨ho3, ho4⟩ := ho
            clear E3 E4
            go_enter Tryz.func72, Tryz.ntmps72
            go_wp2_with (first
              | (go_at_call 83; go_must (first | ((with_reducible refine (HDD.out _).mono ?_); rintro e w2 ⟨rfl, hb2⟩) | ((with_reducible refine (HD.out _).mono ?_); rintro e w1 ⟨rfl, hb1⟩)))
              | (go_at_call 84; go_must (refine (letter_any _ _).mono ?_; rintro e w3 ⟨rfl, hb3⟩)))
            go_ret2
            exact ⟨ret_sn (by rw [HR.out]) (by rw [HR.out]; rfl), eonto (eonto hb1 hb2) hb3⟩
          · have HR := hid (E3.out hg1 hg2 (fun h => ho h.2))
            have ho' : o < 56320 ∨ 57343 < o := by omega
            clear E3 E4 ho
            rcases ho' with ho | ho
            all_goals
              go_enter Tryz.func72, Tryz.ntmps72
              go_wp2_with (go_at_call 83; go_must (first | ((with_reducible refine (HDD.out _).mono ?_); rintro e w2 ⟨rfl, hb2⟩) | ((with_reducible refine (HD.out _).mono ?_); rintro e w1 ⟨rfl, hb1⟩)))
              go_ret2
              exact ⟨ret_sn (by rw [HR.out]; rfl) (by rw [HR.out]; rfl), eonto hb1 hb2⟩
        · have HR := hid (E3.out hg1 hg2 (fun h => hk2 h.1))
          have HDD : Hid (∀ X, Calls Tryz.prog 83 #[.string u, .int .u8 117, .int .i64 4] X fun e w' => e = .returned (.tuple #[.int .i64 0, .int .i64 0]) ∧ Below X.heap.size X w') := fun X => (HD2.out X).mono fun e w' ⟨h, hb⟩ => ⟨by
            rcases h with ⟨h, -⟩ | ⟨-, h⟩
            · exact absurd h hk2
            · exact h, hb⟩
          clear HD2 E3 E4
          go_enter Tryz.func72, Tryz.ntmps72
          go_wp2_with (go_at_call 83; go_must (first | ((with_reducible refine (HDD.out _).mono ?_); rintro e w2 ⟨rfl, hb2⟩) | ((with_reducible refine (HD.out _).mono ?_); rintro e w1 ⟨rfl, hb1⟩)))
          go_ret2
          exact ⟨ret_sn (by rw [HR.out]; rfl) (by rw [HR.out]; rfl), eonto hb1 hb2⟩
  · have HR := hid (E1.out (Or.inl (HV.out hk)))
    have HD : Hid (∀ X, Calls Tryz.prog 83 #[.string s, .int .u8 117, .int .i64 4] X fun e w' => e = .returned (.tuple #[.int .i64 0, .int .i64 0]) ∧ Below X.heap.size X w') := fun X => (HD1.out X).mono fun e w' ⟨h, hb⟩ => ⟨by
      rcases h with ⟨h, -⟩ | ⟨-, h⟩
      · exact absurd h hk
      · exact h, hb⟩
    clear HD1 HV HN6 E1 E2 E3 E4 HD2
    go_enter Tryz.func72, Tryz.ntmps72
    go_wp2_with (go_at_call 83; go_must (refine (HD.out _).mono ?_; rintro e w1 ⟨rfl, hb1⟩))
    go_ret2
    exact ⟨ret_sn (by rw [HR.out]; rfl) (by rw [HR.out]; rfl), hb1⟩
end Go.Proofs.YtoamndiblckdlaaGreatDoor
