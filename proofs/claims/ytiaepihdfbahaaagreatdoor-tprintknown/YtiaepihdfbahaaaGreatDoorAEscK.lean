/- esc.quoteByte: walked. -/
import Derived.Test.YtiaepihdfbahaaaGreatDoorAEscSide
/- esc.quote, Quote, TQuote: walked. -/
namespace Go.Proofs.YtiaepihdfbahaaaGreatDoor
open Go.RowKit

theorem enc_sml (n : Nat) (h : n < 128) : Utf8.encode (n : Int) = mkS [UInt8.ofNat n] := by
  unfold Utf8.encode
  have hv : Utf8.valid (n : Int) = true := by unfold Utf8.valid; simp; omega
  simp only [hv, if_true, Int.toNat_natCast, h]
  rfl
def hexS : ByteArray := ⟨#[48, 49, 50, 51, 52, 53, 54, 55, 56, 57, 97, 98, 99, 100, 101, 102]⟩
theorem hex_cut : ∀ n < 16, (hexS.extract n (n + 1)).data.toList = [hxD n] := by decide
theorem hex_two (n : Nat) (h : n < 256) : (⟨#[92, 117, 48, 48]⟩ : ByteArray) ++ hexS.extract (n / 16) (n / 16 + 1) ++ hexS.extract (n % 16) (n % 16 + 1) = mkS [92, 117, 48, 48, hxD (n / 16), hxD (n % 16)] := by
  refine mkS_of _ _ ?_
  rw [ByteArray.data_append, ByteArray.data_append, Array.toList_append, Array.toList_append, hex_cut _ (by omega), hex_cut _ (by omega)]; rfl
set_option maxRecDepth 100000 in
set_option maxHeartbeats 1000000 in
theorem qbyte_any (b : UInt8) (w : World) (hb : b.toNat < 128) :
    Calls Tryz.prog 72 #[.int .u8 (b.toNat : Int)] w fun e w' => e = .returned (.string (mkS (qbB b.toNat))) ∧ Below w.heap.size w w' := by
  have hO := enc_sml b.toNat hb
  obtain ⟨n, hn⟩ : ∃ n, b.toNat = n := ⟨_, rfl⟩
  rw [hn] at hO hb ⊢
  obtain ⟨m, hm⟩ : ∃ m, Utf8.encode (n : Int) = m := ⟨_, rfl⟩
  have HM := hid (show m = mkS [UInt8.ofNat n] by rw [← hm, hO])
  have hms : m.size = 1 := by rw [HM.out, mkS_size]; rfl
  clear hn hO
  by_cases h1 : n = 34 ∨ n = 92
  · have HQ := hid (show qbB n = [92, UInt8.ofNat n] by unfold qbB; rw [if_pos h1])
    have h1' : ((n : Int) == 34) = true ∨ (((n : Int) == 34) = false ∧ ((n : Int) == 92) = true) := by simp only [beq_iff_eq, beq_eq_false_iff_ne]; omega
    clear h1
    rcases h1' with g | ⟨g, g2⟩
    all_goals
      go_enter Tryz.func72, Tryz.ntmps72
      go_wp2
      go_ret
      exact ⟨ret_st (by rw [HQ.out, HM.out]; rfl), Below.refl _ _⟩
  · have a1 : ((n : Int) == 34) = false := by rw [beq_eq_false_iff_ne]; omega
    have a2 : ((n : Int) == 92) = false := by rw [beq_eq_false_iff_ne]; omega
    by_cases h2 : n = 8 ∨ n = 9 ∨ n = 10 ∨ n = 12 ∨ n = 13
    · clear HM hm hms a1 a2 h1 hb
      rcases h2 with rfl | rfl | rfl | rfl | rfl
      all_goals
        go_enter Tryz.func72, Tryz.ntmps72
        go_wp2
        go_ret
        exact ⟨rfl, Below.refl _ _⟩
    · have a3 : ((n : Int) == 8) = false := by rw [beq_eq_false_iff_ne]; omega
      have a4 : ((n : Int) == 9) = false := by rw [beq_eq_false_iff_ne]; omega
      have a5 : ((n : Int) == 10) = false := by rw [beq_eq_false_iff_ne]; omega
      have a6 : ((n : Int) == 12) = false := by rw [beq_eq_false_iff_ne]; omega
      have a7 : ((n : Int) == 13) = false := by rw [beq_eq_false_iff_ne]; omega
      by_cases h3 : n < 32 ∨ n = 127
      · have HQ := hid (show qbB n = [92, 117, 48, 48, hxD (n / 16), hxD (n % 16)] by
          unfold qbB; rw [if_neg h1, if_neg (by omega), if_neg (by omega), if_neg (by omega), if_neg (by omega), if_neg (by omega), if_pos h3])
        have HX := hid (hex_two n (by omega))
        have hand : bits .and .u8 (n : Int) 15 = (n : Int) % 16 := (and_parts n (by omega)).2.1
        have h3' : (decide ((n : Int) < 32) = true) ∨ (decide ((n : Int) < 32) = false ∧ ((n : Int) == 127) = true) := by simp only [decide_eq_true_eq, decide_eq_false_iff_not, beq_iff_eq]; omega
        clear h1 h2 h3 HM hm hms
        rcases h3' with g | ⟨g, g2⟩
        all_goals
          go_enter Tryz.func72, Tryz.ntmps72
          go_wp2
          go_quiet (fail)
          go_wp2
          go_ret
          exact ⟨ret_st (by rw [HQ.out]; exact HX.out), drewN_below _ _⟩
      · have HQ := hid (show qbB n = [UInt8.ofNat n] by
          unfold qbB; rw [if_neg h1, if_neg (by omega), if_neg (by omega), if_neg (by omega), if_neg (by omega), if_neg (by omega), if_neg h3])
        have g : ¬ (n : Int) < 32 := by omega
        have g2 : ((n : Int) == 127) = false := by rw [beq_eq_false_iff_ne]; omega
        clear h1 h2 h3
        go_enter Tryz.func72, Tryz.ntmps72
        go_wp2
        go_ret
        exact ⟨ret_st (by rw [HQ.out, HM.out]), Below.refl _ _⟩
end Go.Proofs.YtiaepihdfbahaaaGreatDoor
namespace Go.Proofs.YtiaepihdfbahaaaGreatDoor
open Go.RowKit

theorem qst_len (toml : Bool) (l : List UInt8) : (qst toml l).length ≤ 6 := by
  unfold qst
  split
  · simp
  · split
    · have := begN_le
      rw [List.length_take]
      cases l with
      | nil => simp
      | cons a t =>
        have h1 : tkN (a :: t) ≤ 4 := by simp only [tkN]; split
                                         · exact begN_le _
                                         · omega
        omega
    · unfold qbB; (repeat' split) <;> simp
theorem qtK_len (toml : Bool) (t : List UInt8) (k : Nat) : (qtK toml t k).length ≤ 6 * k + 1 := by
  induction k with
  | zero => simp [qtK]
  | succ k ih => rw [qtK_succ, List.length_append]; have := qst_len toml (t.drop (pos t k)); omega
theorem tkN_4 (l : List UInt8) : tkN l ≤ 4 := by
  cases l with
  | nil => simp [tkN]
  | cons a t =>
    simp only [tkN]; split
    · exact begN_le _
    · omega
theorem tk_small {l : List UInt8} (h0 : tkN l ≠ 0) (h1 : ¬ 1 < tkN l) : bt l 0 < 128 := by
  cases l with
  | nil => simp [tkN] at h0
  | cons a t =>
    simp only [tkN] at h0 h1
    split at h0
    · next h =>
      rw [if_pos h] at h1
      have hb : begN a.toNat = 1 := by omega
      rw [bt_cons]
      exact (beg_one hb).1
    · exact absurd rfl h0
theorem own_snoc {w : World} {base : Nat} {v : Value} {a : List UInt8} {b : UInt8} (h : w.ownsRow base 5 1 v (a.length + 1) (Lib.strCells (mkS a) ++ [.int .u8 (b.toNat : Int)])) :
    w.ownsRow base 5 1 v (a ++ [b]).length (Lib.strCells (mkS (a ++ [b]))) := by
  rw [strCells_app, List.length_append]
  exact h
theorem ltr_fffd : ltr 65533 = [239, 191, 189] := by decide +kernel
set_option maxRecDepth 100000 in
set_option maxHeartbeats 4000000 in
theorem quote_any (toml : Bool) (t : ByteArray) (w : World) (ht : t.size ≤ 100000) :
    Calls Tryz.prog 45 #[.string t, .bool toml] w fun e w' => e = .returned (.string (mkS (qtA toml t.data.toList))) ∧ Below w.heap.size w w' := by
  have HZ := hid (size_list t)
  have HML := hid (show t.size ≤ maxLen by unfold maxLen; omega)
  obtain ⟨i1, hi, hz0, hz1, hz2⟩ := info_parts Tryz.info_b
  obtain ⟨T, hT⟩ : ∃ T, t.data.toList = T := ⟨_, rfl⟩
  have HT := hid hT
  have HTL := hid (show T.length = t.size by rw [← hT]; exact size_list t)
  have HBT : Hid (∀ p (h : p < t.size), bt T p = t[p].toNat) := fun p h => by rw [← HT.out]; exact bt_at t p h
  rw [hT]
  clear hT
  go_enter Tryz.func45, Tryz.ntmps45
  go_wp2_with fail
  go_loopw [5, 6] (fun o a wr => ∃ k : Nat, pos T k ≤ t.size ∧ a = .int .i64 (pos T k) ∧ Hid (wr.ownsRow w.heap.size 5 1 o (qtK toml T k).length (Lib.strCells (mkS (qtK toml T k)))) ∧ Hid (Below w.heap.size w wr)) (fun _ a _ => t.size - (intOf a).toNat)
  case atStart =>
    refine ⟨0, Nat.zero_le _, rfl, ?_, (Below.refl _ _).alloc (Nat.le_refl _) _⟩
    exact ⟨rfl, Or.inr ⟨w.heap.size, 1, #[.int .u8 34], rfl, Nat.le_refl _, heap_alloc_new w _, Nat.le_refl 1, by unfold maxLen; decide, rfl, rfl⟩⟩
  case round =>
    obtain ⟨k, hp, rfl, HO, HB⟩ := hrel
    have hbs := HB.out.size
    have hk := pos_ge T k
    have hql : (qtK toml T k).length ≤ 600001 := by have := qtK_len toml T k; omega
    by_cases hlt : pos T k < t.size
    · obtain ⟨u, hu⟩ : ∃ u, t.extract (pos T k) t.size = u := ⟨_, rfl⟩
      have hul : u.data.toList = T.drop (pos T k) := by rw [← hu, drop_list, HT.out]
      have hus : u.size = t.size - pos T k := by rw [← size_list, hul, List.length_drop, HTL.out]
      have HN := hid (show pos T (k + 1) ≤ t.size by have := pos_next T k (by rw [HTL.out]; exact hlt); rw [HTL.out] at this; exact this)
      have CT : Hid (∀ X, Calls Tryz.prog 70 #[.string u] X fun e w' => e = .returned (.tuple #[.int .i64 (tkR (T.drop (pos T k)) : Nat), .int .i64 (tkN (T.drop (pos T k)) : Nat)]) ∧ w' = X) := fun X => by
        have := take_all u X (by have := HML.out; omega)
        rw [hul] at this; exact this
      have B0 := hid (show bt (T.drop (pos T k)) 0 = t[pos T k].toNat by rw [bt_drop, Nat.add_zero]; exact HBT.out _ hlt)
      have h4 := tkN_4 (T.drop (pos T k))
      have hnl : pos T k + tkN (T.drop (pos T k)) ≤ t.size := by have := tkN_le (T.drop (pos T k)); rw [← hul, size_list] at this; rw [← hul]; omega
      have HPS := hid (show pos T (k + 1) = pos T k + max (tkN (T.drop (pos T k))) 1 from rfl)
      obtain ⟨x, hx⟩ : ∃ x, qst toml (T.drop (pos T k)) = x := ⟨_, rfl⟩
      obtain ⟨m, hm⟩ : ∃ m, mkS x = m := ⟨_, rfl⟩
      have hms : m.size ≤ 6 := by rw [← hm, mkS_size, ← hx]; exact qst_len _ _
      have HM := hid (show mkS (qst toml (T.drop (pos T k))) = m by rw [hx]; exact hm)
      by_cases h0 : tkN (T.drop (pos T k)) = 0
      · have HP := hid (show ((pos T k : Nat) : Int) + 1 = ((pos T (k + 1) : Nat) : Int) by rw [HPS.out, h0]; omega)
        have h0' : (((tkN (T.drop (pos T k)) : Nat) : Int) == 0) = true := by rw [h0]; rfl
        have HLT : Hid (∀ X, Calls Tryz.prog 71 #[.int .i64 65533] X fun e w' => e = .returned (.string m) ∧ Below X.heap.size X w') := fun X => by
          have := letter_any 65533 X
          rw [ltr_fffd, show ([239, 191, 189] : List UInt8) = x by rw [← hx]; unfold qst; rw [if_pos h0], hm] at this; exact this
        clear hm hx hul hus HPS h0
        go_wp2_with fail
        go_at_call 70
        refine (CT.out _).mono ?_
        rintro e w0 ⟨rfl, rfl⟩
        go_wp2_with fail
        go_at_call 71
        refine (HLT.out _).mono ?_
        rintro e w1 ⟨rfl, hb1⟩
        have HO1 := hid (ownsRow_below HO.out hb1)
        have hb01 := eonto HB.out hb1
        have hz1s := hb01.size
        go_wp2_with (at_builtin; go_must (refine Lib.wpList_append_own_string _ rfl _ _ 39 9 rfl w.heap.size 5 i1 Tryz.underlying39 Tryz.underlying9 hi hz0 hz1 hz2 _ (qtK toml T k).length (Lib.strCells (mkS (qtK toml T k))) rfl HO1.out m rfl (by unfold maxLen; omega) (by omega) hz1s ?_; intro v2 w2 hown2 hgr2 _; have hown3 := own_app HM.out hown2))
        have hb2 : Below w.heap.size w w2 := hb01.grown hgr2 hz1s (fun k hk => (HO1.out.lt k hk).1)
        go_roundw
        case rel => exact ⟨k + 1, HN.out, val_int HP.out, (show w2.ownsRow _ _ _ _ _ _ by rw [qtK_succ]; exact hown3), hb2⟩
        case measure => simp [intOf]; omega
      · have HP := hid (show ((pos T k : Nat) : Int) + ((tkN (T.drop (pos T k)) : Nat) : Int) = ((pos T (k + 1) : Nat) : Int) by rw [HPS.out]; omega)
        have h0' : (((tkN (T.drop (pos T k)) : Nat) : Int) == 0) = false := by rw [beq_eq_false_iff_ne]; omega
        have HO1 := HO
        have hb01 := HB.out
        have hz1s := hbs
        by_cases hbig : 1 < tkN (T.drop (pos T k)) ∨ (t[pos T k].toNat = 127 ∧ toml = false)
        · have HXT : Hid (t.extract (pos T k) (pos T k + tkN (T.drop (pos T k))) = m) := by
            show _ = _
            rw [← hm, ← hx]
            refine mkS_of _ _ ?_
            rw [drop_ext, HT.out, Nat.add_sub_cancel_left]
            unfold qst
            rw [if_neg h0, if_pos (by rw [B0.out]; exact hbig)]
          have hms2 : (t.extract (pos T k) (pos T k + tkN (T.drop (pos T k)))).size ≤ 6 := by rw [HXT.out]; exact hms
          have HM2 := hid (HM.out.trans HXT.out.symm)
          have hbig' : decide (1 < ((tkN (T.drop (pos T k)) : Nat) : Int)) = true ∨ (decide (1 < ((tkN (T.drop (pos T k)) : Nat) : Int)) = false ∧ ((t[pos T k].toNat : Int) == 127) = true ∧ toml = false) := by
            simp only [decide_eq_true_eq, decide_eq_false_iff_not, beq_iff_eq]
            by_cases h1 : 1 < tkN (T.drop (pos T k))
            · left; omega
            · right; rcases hbig with h | ⟨h, h'⟩
              · exact absurd h h1
              · exact ⟨by omega, by omega, h'⟩
          generalize tkN (T.drop (pos T k)) = n at *
          clear hm hx hul hus HPS hbig
          rcases hbig' with g | ⟨g, g2, rfl⟩
          all_goals
            go_wp2_with fail
            go_at_call 70
            refine (CT.out _).mono ?_
            rintro e w0 ⟨rfl, rfl⟩
            go_wp2_with (at_builtin; go_must (refine Lib.wpList_append_own_string _ rfl _ _ 39 9 rfl w.heap.size 5 i1 Tryz.underlying39 Tryz.underlying9 hi hz0 hz1 hz2 _ _ _ rfl HO1.out (t.extract (pos T k) (pos T k + n)) rfl (by unfold maxLen; omega) (by omega) hz1s ?_; intro v2 w2 hown2 hgr2 _; have hown3 := own_app HM2.out hown2))
            have hb2 : Below w.heap.size w w2 := hb01.grown hgr2 hz1s (fun k hk => (HO1.out.lt k hk).1)
            go_roundw
            case rel => exact ⟨k + 1, HN.out, val_int HP.out, (show w2.ownsRow _ _ _ _ _ _ by rw [qtK_succ]; exact hown3), hb2⟩
            case measure => simp [intOf]; omega
        · have hsm : t[pos T k].toNat < 128 := by rw [← B0.out]; exact tk_small h0 (fun h => hbig (Or.inl h))
          have HQB : Hid (∀ X, Calls Tryz.prog 72 #[.int .u8 (t[pos T k].toNat : Int)] X fun e w' => e = .returned (.string m) ∧ Below X.heap.size X w') := fun X => by
            have := qbyte_any t[pos T k] X hsm
            rw [show qbB t[pos T k].toNat = x by rw [← hx]; unfold qst; rw [if_neg h0, if_neg (by rw [B0.out]; exact hbig), B0.out], hm] at this; exact this
          have g1 : decide (1 < ((tkN (T.drop (pos T k)) : Nat) : Int)) = false := decide_eq_false (fun h => hbig (Or.inl (by omega)))
          have g2 : ((t[pos T k].toNat : Int) == 127) = false ∨ (((t[pos T k].toNat : Int) == 127) = true ∧ toml = true) := by
            by_cases h7 : t[pos T k].toNat = 127
            · right
              refine ⟨by rw [beq_iff_eq]; omega, ?_⟩
              cases toml with
              | true => rfl
              | false => exact absurd (Or.inr ⟨h7, rfl⟩) hbig
            · left; rw [beq_eq_false_iff_ne]; omega
          generalize tkN (T.drop (pos T k)) = n at *
          clear hm hx hul hus HPS hbig HO1
          rcases g2 with g2 | ⟨g2, rfl⟩
          all_goals
            go_wp2_with fail
            go_at_call 70
            refine (CT.out _).mono ?_
            rintro e w0 ⟨rfl, rfl⟩
            go_wp2_with fail
            go_at_call 72
            refine (HQB.out _).mono ?_
            rintro e w1 ⟨rfl, hb1⟩
            have HO1 := hid (ownsRow_below HO.out hb1)
            have hb01 := eonto HB.out hb1
            have hz1s := hb01.size
            go_wp2_with (at_builtin; go_must (refine Lib.wpList_append_own_string _ rfl _ _ 39 9 rfl w.heap.size 5 i1 Tryz.underlying39 Tryz.underlying9 hi hz0 hz1 hz2 _ _ _ rfl HO1.out m rfl (by unfold maxLen; omega) (by omega) hz1s ?_; intro v2 w2 hown2 hgr2 _; have hown3 := own_app HM.out hown2))
            have hb2 : Below w.heap.size w w2 := hb01.grown hgr2 hz1s (fun k hk => (HO1.out.lt k hk).1)
            go_roundw
            case rel => exact ⟨k + 1, HN.out, val_int HP.out, (show w2.ownsRow _ _ _ _ _ _ by rw [qtK_succ]; exact hown3), hb2⟩
            case measure => simp [intOf]; omega
    · have HC := hid (at_cnt T k (by rw [HTL.out]; omega))
      go_wp2_with (at_builtin; go_must (refine wpList_append_own _ rfl _ _ 39 rfl w.heap.size 5 i1 (.int .u8 0) 1 1 Tryz.underlying39 hi hz0 hz1 hz2 rfl (by decide) _ (qtK toml T k).length _ rfl (HO.out.alloc _) ⟨wr.heap.size, 0, none⟩ 1 1 [.int .u8 34] rfl rfl (new_cells wr _ 5) (ints_oneCell .u8 [34]) (by unfold maxLen; omega) (by omega) (by simp; omega) ?_; intro v1 w1 hown1 hgr1 _; have hown3 : w1.ownsRow w.heap.size 5 1 v1 (qtK toml T k ++ [34]).length (Lib.strCells (mkS (qtK toml T k ++ [34]))) := own_snoc hown1; have hcv := conv_own w1 w.heap.size v1 (qtK toml T k ++ [34]) hown3))
      have hb1 : Below w.heap.size w w1 := (HB.out.alloc hbs _).grown hgr1 (by simp; omega) (fun j hj => (HO.out.lt j hj).1)
      go_ret
      exact ⟨ret_st (by unfold qtA; rw [← HC.out]), hb1⟩
set_option maxHeartbeats 400000 in
theorem tquote_any (t : ByteArray) (w : World) (ht : t.size ≤ 100000) :
    Calls Tryz.prog 25 #[.string t] w fun e w' => e = .returned (.string (mkS (qtA true t.data.toList))) ∧ Below w.heap.size w w' := by
  go_enter Tryz.func25, Tryz.ntmps25
  go_wp2_with (go_at_call 45; go_must (refine (quote_any true t _ ht).mono ?_; rintro e w1 ⟨rfl, hb1⟩))
  go_ret
  exact ⟨rfl, hb1⟩
end Go.Proofs.YtiaepihdfbahaaaGreatDoor
