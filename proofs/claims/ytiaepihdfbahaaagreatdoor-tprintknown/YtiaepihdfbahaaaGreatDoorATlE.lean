/- tlex.isTime, withoutZone, Stamp: walked. -/
import Derived.Test.YtiaepihdfbahaaaGreatDoorATlD
namespace Go.Proofs.YtiaepihdfbahaaaGreatDoor
open Go.RowKit

theorem tcut_dot (s : ByteArray) (w : World) (hs : s.size ≤ 1000000) (hg : GlobM w) :
    Calls Tryz.prog 92 #[.string s, .string ⟨#[46]⟩] w fun e w' => e = .returned (.tuple #[.string (mkS (ckH s.data.toList)), .string (mkS (ckF s.data.toList)), .bool (ckD s.data.toList)]) ∧ Below w.heap.size w w' := by
  obtain ⟨m, hm⟩ := hg
  refine (Tryz.strings_Cut s ⟨#[46]⟩ m w (by omega) hm).mono ?_
  rintro e w' ⟨rfl, n, rfl⟩
  rw [show (⟨#[46]⟩ : ByteArray).data.toList = [46] from rfl, cut_run]
  exact ⟨rfl, tdrew_below _ _⟩
theorem ten_in : (fun b => (⟨#[48, 49, 50, 51, 52, 53, 54, 55, 56, 57]⟩ : ByteArray).data.toList.contains b) = dgI := funext (byte_eq _ _ (by decide +kernel))
theorem bds_new (w : World) (bs : List Nat) (h : ∀ b ∈ bs, b ≤ 1000) (t : TypeId) : Bds (w.alloc (.cells (bs.map fun b => Value.int .i64 (b : Nat)).toArray t)) ⟨w.heap.size, 0, none⟩ bs := fun i b hi =>
  ⟨new_cells w _ t i _ (by rw [List.getElem?_map, hi]; rfl), h b (List.mem_of_getElem? hi)⟩
theorem nat_beq (a b : Nat) : ((a : Int) == (b : Int)) = decide (a = b) := by
  rw [Bool.eq_iff_iff]; simp; omega
theorem empty_is (s : ByteArray) : s.toList.isEmpty = decide (s.data.toList = []) := by
  rw [ByteArray.toList_eq]; cases s.data.toList <;> simp
set_option maxRecDepth 100000 in
set_option maxHeartbeats 2000000 in
theorem ttime_any (s : ByteArray) (w : World) (hs : s.size ≤ 1000000) (hg : GlobM w) :
    Calls Tryz.prog 59 #[.string s] w fun e w' => e = .returned (.bool (tmB s.data.toList)) ∧ Below w.heap.size w w' := by
  have HG := hid hg
  have CC := hid (tcut_dot s w hs hg)
  have hH : (ckH s.data.toList).length ≤ 1000000 := by unfold ckH; rw [List.length_take, size_list]; omega
  have hF : (ckF s.data.toList).length ≤ 1000000 := by unfold ckF; rw [List.length_drop, size_list]; omega
  have HT : Hid (tmB s.data.toList = (ckS (spl 58 (ckH s.data.toList)) [24, 60, 61] && (!ckD s.data.toList || frB (ckF s.data.toList)))) := rfl
  generalize tmB s.data.toList = R at *
  have CK : Hid (∀ X, Below w.heap.size w X → Calls Tryz.prog 93 #[.string (mkS (ckH s.data.toList)), .slice (some ⟨X.heap.size, 0, none⟩) 3 3] (X.alloc (.cells #[.int .i64 24, .int .i64 60, .int .i64 61] 3)) fun e w' => e = .returned (.bool (ckS (spl 58 (ckH s.data.toList)) [24, 60, 61])) ∧ Below X.heap.size X w') := fun X hX => by
    have hal : Below X.heap.size X (X.alloc (.cells #[.int .i64 24, .int .i64 60, .int .i64 61] 3)) := (Below.refl _ _).alloc (Nat.le_refl _) _
    have := tclock_any (mkS (ckH s.data.toList)) [24, 60, 61] ⟨X.heap.size, 0, none⟩ (X.alloc (.cells #[.int .i64 24, .int .i64 60, .int .i64 61] 3)) (by rw [← size_list, mkS_list]; exact hH) ((hg.on hX).on hal) (bds_new X [24, 60, 61] (by decide) 3) (by decide)
    rw [mkS_list] at this
    exact this.mono fun e w' ⟨he, hb⟩ => ⟨he, eonto hal hb⟩
  generalize ckS (spl 58 (ckH s.data.toList)) [24, 60, 61] = c at *
  generalize mkS (ckH s.data.toList) = H at *
  have hFs : (mkS (ckF s.data.toList)).size = (ckF s.data.toList).length := by rw [← size_list, mkS_list]
  have HEM := hid (empty_is (mkS (ckF s.data.toList)))
  rw [mkS_list] at HEM
  have CR := hid (fun X => trowEnd_of (mkS (ckF s.data.toList)) 0 ⟨#[48, 49, 50, 51, 52, 53, 54, 55, 56, 57]⟩ dgI ten_in (by decide) (ascii_of _ (by decide)) X (by rw [hFs]; exact hF) (Nat.zero_le _))
  rw [mkS_list, List.drop_zero] at CR
  have HFR : Hid (frB (ckF s.data.toList) = (decide (ckF s.data.toList ≠ []) && decide ((ckF s.data.toList).length ≤ 9) && decide (run dgI (ckF s.data.toList) = (ckF s.data.toList).length))) := rfl
  have hrl := run_leE dgI (ckF s.data.toList)
  rw [HFR.out] at HT
  generalize ckD s.data.toList = D at *
  generalize hfe : mkS (ckF s.data.toList) = F at *
  generalize ckF s.data.toList = f at *
  generalize run dgI f = r at *
  have hFs2 : f.length = F.size := hFs.symm
  rw [hFs2] at HT hrl
  clear HFR hH hF hg hfe hFs hFs2
  go_enter Tryz.func59, Tryz.ntmps59
  go_wp2_with (go_at_call 92; go_must (refine CC.out.mono ?_; rintro e w1 ⟨rfl, hb1⟩))
  go_at_call 93
  refine (CK.out w1 hb1).mono ?_
  rintro e w2 ⟨rfl, hb2⟩
  have HB := hid (eonto hb1 hb2)
  clear hb1 hb2
  cases c with
  | false =>
    go_wp2_with fail
    go_ret
    exact ⟨ret_bool (by rw [HT.out]; rfl), HB.out⟩
  | true =>
    cases D with
    | false =>
      go_wp2_with fail
      go_ret
      exact ⟨ret_bool (by rw [HT.out]; rfl), HB.out⟩
    | true =>
      by_cases hf : f = []
      · have he : F.toList.isEmpty = true := by rw [HEM.out, decide_eq_true hf]
        go_wp2_with fail
        go_ret
        exact ⟨ret_bool (by rw [HT.out, decide_eq_false (fun h => h hf)]; rfl), HB.out⟩
      · have he : F.toList.isEmpty = false := by rw [HEM.out, decide_eq_false hf]
        by_cases h9 : F.size ≤ 9
        · go_wp2_with (go_at_call 94; go_must (refine (CR.out _).mono ?_; rintro e w3 ⟨rfl, hb3⟩))
          go_ret
          exact ⟨ret_bool (by rw [HT.out, decide_eq_true hf, decide_eq_true h9]; simp; exact nat_beq _ _), eonto HB.out hb3⟩
        · go_wp2_with fail
          go_ret
          exact ⟨ret_bool (by rw [HT.out, decide_eq_true hf, decide_eq_false h9]; rfl), HB.out⟩
theorem in_zz (b : UInt8) : inT [90, 122] b = decide (b.toNat = 90 ∨ b.toNat = 122) := byte_eq _ (fun b => decide (b.toNat = 90 ∨ b.toNat = 122)) (by decide +kernel) b
theorem in_pm (b : UInt8) : inT [43, 45] b = decide (b.toNat = 43 ∨ b.toNat = 45) := byte_eq _ (fun b => decide (b.toNat = 43 ∨ b.toNat = 45)) (by decide +kernel) b
theorem in_tt (b : UInt8) : inT [84, 116, 32] b = decide (b.toNat = 84 ∨ b.toNat = 116 ∨ b.toNat = 32) := byte_eq _ (fun b => decide (b.toNat = 84 ∨ b.toNat = 116 ∨ b.toNat = 32)) (by decide +kernel) b
theorem tamong_zz (b : UInt8) (w : World) :
    Calls Tryz.prog 60 #[.string ⟨#[90, 122]⟩, .int .u8 (b.toNat : Int)] w fun e w' => e = .returned (.bool (decide (b.toNat = 90 ∨ b.toNat = 122))) ∧ w' = w :=
  tamong_of _ (fun b => decide (b.toNat = 90 ∨ b.toNat = 122)) in_zz b w
theorem tamong_pm (b : UInt8) (w : World) :
    Calls Tryz.prog 60 #[.string ⟨#[43, 45]⟩, .int .u8 (b.toNat : Int)] w fun e w' => e = .returned (.bool (decide (b.toNat = 43 ∨ b.toNat = 45))) ∧ w' = w :=
  tamong_of _ (fun b => decide (b.toNat = 43 ∨ b.toNat = 45)) in_pm b w
theorem tamong_tt (b : UInt8) (w : World) :
    Calls Tryz.prog 60 #[.string ⟨#[84, 116, 32]⟩, .int .u8 (b.toNat : Int)] w fun e w' => e = .returned (.bool (decide (b.toNat = 84 ∨ b.toNat = 116 ∨ b.toNat = 32))) ∧ w' = w :=
  tamong_of _ (fun b => decide (b.toNat = 84 ∨ b.toNat = 116 ∨ b.toNat = 32)) in_tt b w
theorem ret_str {a b : ByteArray} (h : a = b) : Ending.returned (.string a) = .returned (.string b) := by rw [h]
theorem take_str (s : ByteArray) (n : Nat) : s.extract 0 n = mkS (s.data.toList.take n) := mkS_of _ _ (by simp)
theorem self_str (s : ByteArray) : s = mkS s.data.toList := mkS_of _ _ rfl
set_option maxRecDepth 100000 in
set_option maxHeartbeats 2000000 in
theorem tzone_any (s : ByteArray) (w : World) (hs : s.size ≤ 1000000) (hg : GlobM w) :
    Calls Tryz.prog 61 #[.string s] w fun e w' => e = .returned (.string (mkS (znT s.data.toList))) ∧ Below w.heap.size w w' := by
  have HZ := hid (size_list s)
  have HE := hid (empty_is s)
  have CP := hid (fun b X => tamong_pm b X)
  have CZ := hid (fun b X => tamong_zz b X)
  obtain ⟨R, hR⟩ : ∃ R, znT s.data.toList = R := ⟨_, rfl⟩
  have HR := hid hR
  rw [hR]
  clear hR
  unfold znT at HR
  by_cases h0 : s.data.toList = []
  · have he : s.toList.isEmpty = true := by rw [HE.out, decide_eq_true h0]
    have hz : s.size = 0 := by rw [← HZ.out, h0]; rfl
    have hz1 : (s.size : Int) - 6 < 0 := by omega
    rw [if_neg (fun k => k.1 h0), if_neg (by unfold zoB; rw [HZ.out, decide_eq_false (show ¬ 6 ≤ s.size by omega)]; simp)] at HR
    have HX := hid (self_str s)
    clear h0 hz
    go_enter Tryz.func61, Tryz.ntmps61
    go_wp2_with fail
    go_ret
    exact ⟨ret_str (by rw [← HR.out]; exact HX.out), Below.refl _ _⟩
  · have he : s.toList.isEmpty = false := by rw [HE.out, decide_eq_false h0]
    have hsz : 1 ≤ s.size := by rw [← HZ.out]; cases h : s.data.toList with | nil => exact absurd h h0 | cons a l => simp
    obtain ⟨q, hq⟩ : ∃ q : Nat, (s.size : Int) - 1 = (q : Int) := ⟨s.size - 1, by omega⟩
    have hqs : q < s.size := by omega
    have hbq := s[q].toNat_lt
    have HZB : Hid (znB s.data.toList = decide (s[q].toNat = 90 ∨ s[q].toNat = 122)) := by
      show _ = _
      unfold znB; rw [HZ.out, show s.size - 1 = q by omega, bt_at s q hqs]
    have CZ2 := hid (CZ.out s[q])
    rw [← HZB.out] at CZ2
    cases hz : znB s.data.toList with
    | true =>
      rw [hz] at CZ2
      rw [if_pos ⟨h0, hz⟩] at HR
      have HX : Hid (s.extract 0 q = mkS (s.data.toList.take (s.data.toList.length - 1))) := by
        show _ = _
        rw [take_str, HZ.out, show s.size - 1 = q by omega]
      clear h0 hz HZB CZ CP
      have hlt2 : q < s.size := hqs
      go_enter Tryz.func61, Tryz.ntmps61
      go_wp2_with (go_at_call 60; go_must (refine (CZ2.out _).mono ?_; rintro e w1 ⟨rfl, hw⟩; obtain rfl := hw.symm))
      go_ret
      exact ⟨ret_str (by rw [← HR.out]; exact HX.out), Below.refl _ _⟩
    | false =>
      rw [hz] at CZ2
      rw [if_neg (fun k => by rw [hz] at k; exact absurd k.2 (by decide))] at HR
      clear h0 hz HZB CZ
      by_cases h6 : 6 ≤ s.size
      · obtain ⟨r, hr⟩ : ∃ r : Nat, (s.size : Int) - 6 = (r : Int) := ⟨s.size - 6, by omega⟩
        have hrs : r < s.size := by omega
        have hbr := s[r].toNat_lt
        have HZO : Hid (zoB s.data.toList = (decide (s[r].toNat = 43 ∨ s[r].toNat = 45) && ckS (spl 58 (s.data.toList.drop (r + 1))) [24, 60])) := by
          show _ = _
          unfold zoB; rw [HZ.out, show s.size - 6 = r by omega, bt_at s r hrs, decide_eq_true h6]; rfl
        have CP2 := hid (CP.out s[r])
        have CK : Hid (∀ X, Below w.heap.size w X → Calls Tryz.prog 93 #[.string (s.extract (r + 1) s.size), .slice (some ⟨X.heap.size, 0, none⟩) 2 2] (X.alloc (.cells #[.int .i64 24, .int .i64 60] 3)) fun e w' => e = .returned (.bool (ckS (spl 58 (s.data.toList.drop (r + 1))) [24, 60])) ∧ Below X.heap.size X w') := fun X hX => by
          have hal : Below X.heap.size X (X.alloc (.cells #[.int .i64 24, .int .i64 60] 3)) := (Below.refl _ _).alloc (Nat.le_refl _) _
          have := tclock_any (s.extract (r + 1) s.size) [24, 60] ⟨X.heap.size, 0, none⟩ (X.alloc (.cells #[.int .i64 24, .int .i64 60] 3)) (by simp; omega) ((hg.on hX).on hal) (bds_new X [24, 60] (by decide) 3) (by decide)
          rw [drop_list] at this
          exact this.mono fun e w' ⟨he, hb⟩ => ⟨he, eonto hal hb⟩
        have HTK : Hid (s.data.toList.take (s.data.toList.length - 6) = s.data.toList.take r) := by
          show _ = _
          rw [HZ.out, show s.size - 6 = r by omega]
        rw [HZO.out, HTK.out] at HR
        clear HZO HTK hg CP
        generalize ckS (spl 58 (s.data.toList.drop (r + 1))) [24, 60] = c at *
        generalize decide (s[r].toNat = 43 ∨ s[r].toNat = 45) = z at *
        have HX := hid (self_str s)
        have HX2 := hid (take_str s r)
        have hlt2 : q < s.size := hqs
        have hlt3 : r < s.size := hrs
        cases z with
        | false =>
          rw [Bool.false_and, if_neg (by decide)] at HR
          go_enter Tryz.func61, Tryz.ntmps61
          go_wp2_with (go_at_call 60; go_must (first | ((with_reducible refine (CZ2.out _).mono ?_); rintro e w1 ⟨rfl, hw⟩; obtain rfl := hw.symm) | ((with_reducible refine (CP2.out _).mono ?_); rintro e w1 ⟨rfl, hw⟩; obtain rfl := hw.symm)))
          go_ret
          exact ⟨ret_str (by rw [← HR.out]; exact HX.out), Below.refl _ _⟩
        | true =>
          rw [Bool.true_and] at HR
          go_enter Tryz.func61, Tryz.ntmps61
          go_wp2_with (go_at_call 60; go_must (first | ((with_reducible refine (CZ2.out _).mono ?_); rintro e w1 ⟨rfl, hw⟩; obtain rfl := hw.symm) | ((with_reducible refine (CP2.out _).mono ?_); rintro e w1 ⟨rfl, hw⟩; obtain rfl := hw.symm)))
          go_at_call 93
          refine (CK.out w (Below.refl _ _)).mono ?_
          rintro e w2 ⟨rfl, hb2⟩
          cases c with
          | true =>
            rw [if_pos rfl] at HR
            go_wp2_with fail
            go_ret
            exact ⟨ret_str (by rw [← HR.out]; exact HX2.out), hb2⟩
          | false =>
            rw [if_neg (by decide)] at HR
            go_wp2_with fail
            go_ret
            exact ⟨ret_str (by rw [← HR.out]; exact HX.out), hb2⟩
      · have hn6 : (s.size : Int) - 6 < 0 := by omega
        rw [if_neg (by unfold zoB; rw [HZ.out, decide_eq_false h6]; simp)] at HR
        have HX := hid (self_str s)
        have hlt2 : q < s.size := hqs
        go_enter Tryz.func61, Tryz.ntmps61
        go_wp2_with (go_at_call 60; go_must (refine (CZ2.out _).mono ?_; rintro e w1 ⟨rfl, hw⟩; obtain rfl := hw.symm))
        go_ret
        exact ⟨ret_str (by rw [← HR.out]; exact HX.out), Below.refl _ _⟩
set_option maxRecDepth 100000 in
set_option maxHeartbeats 2000000 in
theorem tstamp_any (s : ByteArray) (w : World) (hs : s.size ≤ 1000000) (hg : GlobM w) :
    Calls Tryz.prog 36 #[.string s] w fun e w' => e = .returned (.bool (stB s.data.toList)) ∧ Below w.heap.size w w' := by
  have HZ := hid (size_list s)
  have C1 := hid (fun X => tday_any s X hs)
  have C2 := hid (fun X (h : Below w.heap.size w X) => ttime_any s X hs (hg.on h))
  have HR : Hid (stB s.data.toList = (dayB s.data.toList || tmB s.data.toList || (decide (10 < s.data.toList.length) && dayB (s.data.toList.take 10) && decide (bt s.data.toList 10 = 84 ∨ bt s.data.toList 10 = 116 ∨ bt s.data.toList 10 = 32) && tmB (znT (s.data.toList.drop 11))))) := rfl
  generalize stB s.data.toList = R at *
  have C3 : Hid (∀ X, Calls Tryz.prog 58 #[.string (s.extract 0 10)] X fun e w' => e = .returned (.bool (dayB (s.data.toList.take 10))) ∧ Below X.heap.size X w') := fun X => by
    have := tday_any (s.extract 0 10) X (by simp; omega)
    rw [drop_ext, List.drop_zero] at this; exact this
  have C4 : Hid (∀ X, Below w.heap.size w X → Calls Tryz.prog 61 #[.string (s.extract 11 s.size)] X fun e w' => e = .returned (.string (mkS (znT (s.data.toList.drop 11)))) ∧ Below X.heap.size X w') := fun X h => by
    have := tzone_any (s.extract 11 s.size) X (by simp; omega) (hg.on h)
    rw [drop_list] at this; exact this
  have hzl : (mkS (znT (s.data.toList.drop 11))).size ≤ 1000000 := by
    rw [← size_list, mkS_list]
    have : (znT (s.data.toList.drop 11)).length ≤ (s.data.toList.drop 11).length := by
      unfold znT; split
      · rw [List.length_take]; omega
      · split
        · rw [List.length_take]; omega
        · omega
    rw [List.length_drop, size_list] at this; omega
  have C5 := hid (fun X (h : Below w.heap.size w X) => ttime_any (mkS (znT (s.data.toList.drop 11))) X hzl (hg.on h))
  rw [mkS_list] at C5
  have CT := hid (fun b X => tamong_tt b X)
  rw [HZ.out] at HR
  generalize tmB (znT (s.data.toList.drop 11)) = b5 at *
  generalize mkS (znT (s.data.toList.drop 11)) = m at *
  generalize dayB (s.data.toList.take 10) = b3 at *
  generalize tmB s.data.toList = b2 at *
  generalize dayB s.data.toList = b1 at *
  clear hg
  cases b1 with
  | true =>
    go_enter Tryz.func36, Tryz.ntmps36
    go_wp2_with (go_at_call 58; go_must (refine (C1.out _).mono ?_; rintro e w1 ⟨rfl, hb1⟩))
    go_ret
    exact ⟨ret_bool (by rw [HR.out]; rfl), hb1⟩
  | false =>
    cases b2 with
    | true =>
      go_enter Tryz.func36, Tryz.ntmps36
      go_wp2_with (first
        | (go_at_call 58; go_must (refine (C1.out _).mono ?_; rintro e w1 ⟨rfl, hb1⟩))
        | (go_at_call 59; go_must (refine (C2.out _ hb1).mono ?_; rintro e w2 ⟨rfl, hb2⟩)))
      go_ret
      exact ⟨ret_bool (by rw [HR.out]; rfl), eonto hb1 hb2⟩
    | false =>
      by_cases h10 : 10 < s.size
      · have hbt := s[10].toNat_lt
        have CT2 := hid (CT.out s[10])
        rw [bt_at s 10 h10, decide_eq_true h10, Bool.true_and] at HR
        generalize decide (s[10].toNat = 84 ∨ s[10].toNat = 116 ∨ s[10].toNat = 32) = b4 at *
        have hlt2 : 10 < s.size := h10
        cases b3 with
        | false =>
          go_enter Tryz.func36, Tryz.ntmps36
          go_wp2_with (first
            | (go_at_call 58; go_must (first | ((with_reducible refine (C1.out _).mono ?_); rintro e w1 ⟨rfl, hb1⟩) | ((with_reducible refine (C3.out _).mono ?_); rintro e w3 ⟨rfl, hb3⟩)))
            | (go_at_call 59; go_must (refine (C2.out _ hb1).mono ?_; rintro e w2 ⟨rfl, hb2⟩)))
          go_ret
          exact ⟨ret_bool (by rw [HR.out]; rfl), eonto (eonto hb1 hb2) hb3⟩
        | true =>
          cases b4 with
          | false =>
            go_enter Tryz.func36, Tryz.ntmps36
            go_wp2_with (first
              | (go_at_call 58; go_must (first | ((with_reducible refine (C1.out _).mono ?_); rintro e w1 ⟨rfl, hb1⟩) | ((with_reducible refine (C3.out _).mono ?_); rintro e w3 ⟨rfl, hb3⟩)))
              | (go_at_call 59; go_must (refine (C2.out _ hb1).mono ?_; rintro e w2 ⟨rfl, hb2⟩))
              | (go_at_call 60; go_must (refine (CT2.out _).mono ?_; rintro e w4 ⟨rfl, hw⟩; obtain rfl := hw.symm)))
            go_ret
            exact ⟨ret_bool (by rw [HR.out]; rfl), eonto (eonto hb1 hb2) hb3⟩
          | true =>
            go_enter Tryz.func36, Tryz.ntmps36
            go_wp2_with (first
              | (go_at_call 58; go_must (first | ((with_reducible refine (C1.out _).mono ?_); rintro e w1 ⟨rfl, hb1⟩) | ((with_reducible refine (C3.out _).mono ?_); rintro e w3 ⟨rfl, hb3⟩)))
              | (go_at_call 59; go_must (first | ((with_reducible refine (C2.out _ hb1).mono ?_); rintro e w2 ⟨rfl, hb2⟩) | ((with_reducible refine (C5.out _ (eonto (eonto (eonto hb1 hb2) hb3) hb5)).mono ?_); rintro e w6 ⟨rfl, hb6⟩)))
              | (go_at_call 60; go_must (refine (CT2.out _).mono ?_; rintro e w4 ⟨rfl, hw⟩; obtain rfl := hw.symm))
              | (go_at_call 61; go_must (refine (C4.out _ (eonto (eonto hb1 hb2) hb3)).mono ?_; rintro e w5 ⟨rfl, hb5⟩)))
            go_ret
            exact ⟨ret_bool (by rw [HR.out]; rfl), eonto (eonto (eonto (eonto hb1 hb2) hb3) hb5) hb6⟩
      · rw [decide_eq_false h10, Bool.false_and, Bool.false_and, Bool.false_and] at HR
        go_enter Tryz.func36, Tryz.ntmps36
        go_wp2_with (first
          | (go_at_call 58; go_must (refine (C1.out _).mono ?_; rintro e w1 ⟨rfl, hb1⟩))
          | (go_at_call 59; go_must (refine (C2.out _ hb1).mono ?_; rintro e w2 ⟨rfl, hb2⟩)))
        go_ret
        exact ⟨ret_bool (by rw [HR.out]; rfl), eonto hb1 hb2⟩
end Go.Proofs.YtiaepihdfbahaaaGreatDoor
