import Derived.Test.YtjbccmnmcjmooaaDoorCrH
/- cread's read, walked. -/
namespace Go.Proofs.YtjbccmnmcjmooaaDoor
open Go.RowKit

theorem head_cell {W : World} {base : Nat} {o : Option Addr} {n c : Nat} {e0 : List (List UInt8) × Value} {E : List (List (List UInt8) × Value)} (h : Rws W base (.slice o n c) (e0 :: E)) : ∃ g o' c', o = some ⟨g, 0, none⟩ ∧ n = E.length + 1 ∧ n ≤ c ∧ W.cell? ⟨g, 0, none⟩ = some (.slice o' e0.1.length c') := by
  obtain ⟨o', c', h0⟩ := slice_shape (h.rows e0 (by simp))
  rcases h.own.2 with ⟨-, hn⟩ | ⟨g, cap, cur, he, hb, hg, hnc, -⟩
  · simp at hn
  · injection he with h1 h2 h3
    subst h1 h2 h3
    refine ⟨g, o', c', rfl, rfl, hnc, ?_⟩
    have := h.own.cellAt 0 (by simp)
    simp only [List.map_cons] at this
    rw [← h0]; exact this
set_option maxRecDepth 100000 in
set_option maxHeartbeats 8000000 in
theorem cread_any (t : ByteArray) (w : World) (hs : t.size ≤ 1000000) :
    Calls Tryd.prog 27 #[.string t] w (To t w (csvR fldP t.data.toList)) := by
  obtain ⟨T, hT⟩ : ∃ T, t.data.toList = T := ⟨_, rfl⟩
  have HT := hid hT
  have hTl : T.length = t.size := by rw [← hT, size_list]
  have CV := hid (fun X => valid_any t X (by unfold maxLen; omega))
  rw [hT] at CV ⊢
  obtain ⟨R0, hR0⟩ : ∃ R0, csvR fldP T = R0 := ⟨_, rfl⟩
  rw [hR0]
  unfold csvR at hR0
  have hb0 := valloc_bel (Below.refl w.heap.size w) (.cells #[.string t, .int .i64 0] 60)
  have hc0 : Cr (w.alloc (.cells #[.string t, .int .i64 0] 60)) w.heap.size t 0 := by
    have hr := Row.new w #[.string t, .int .i64 0] 60
    refine ⟨?_, ?_, hr⟩
    · have := new_cells w [.string t, .int .i64 0] 60 0 _ rfl
      rw [add_at] at this; exact this
    · have := new_cells w [.string t, .int .i64 0] 60 1 _ rfl
      rw [add_at] at this; exact this
  have hbz : w.heap.size < (w.alloc (.cells #[.string t, .int .i64 0] 60)).heap.size := by simp
  obtain ⟨i0, hi, hz0, hz1, hz2⟩ := info_parts Tryd.info_strs
  by_cases hbig : 65536 < T.length
  · rw [if_pos hbig] at hR0
    have CR := hid (fun X h => crefuse_any w.heap.size t 0 t.size 2 X h (by omega))
    have hbig' : (65536 : Int) < (t.size : Int) := by omega
    have HC0 := hid hc0
    have HB0 := hid hb0
    have HR := hid hR0.symm
    clear hbig hR0 hb0 hc0 hT hbz CV
    go_enter Tryd.func27, Tryd.ntmps27
    go_wp2_with fail
    go_at_call 36
    refine (CR.out _ HC0.out).mono ?_
    rintro e w1 ⟨hfa, hb9⟩
    have HPP : Hid (To t w R0 e w1) := hid (by rw [HR.out]; exact ⟨hfa, vonto HB0.out hb9⟩)
    unfold cFaulted at hfa
    subst hfa
    generalize faultV t ((t.size : Nat) : Int) ((2 : Nat) : Int) = fv at HPP ⊢
    clear hb9
    go_wp2_with fail
    first
    | exact HPP.out
    | exact ⟨rfl, HPP.out⟩
    | (simp only [bodyPost]; exact HPP.out)
  rw [if_neg hbig] at hR0
  have hs' : t.size ≤ 65536 := by omega
  have hbig' : ¬ (65536 : Int) < (t.size : Int) := by omega
  by_cases hv : pos T (vlk T) = T.length
  rotate_left
  · rw [if_neg hv] at hR0
    have hpl : pos T (vlk T) ≤ T.length := cvlk_in T
    have CR := hid (fun X h => crefuse_any w.heap.size t 0 (pos T (vlk T)) 3 X h (by omega))
    have hv' : decide (pos T (vlk T) = t.size) = false := decide_eq_false (by omega)
    rw [hv'] at CV
    have HC0 := hid hc0
    have HB0 := hid hb0
    have HR := hid hR0.symm
    have HP : Hid (t.size - (T.drop (pos T (vlk T))).length = pos T (vlk T)) := hid (by rw [List.length_drop]; omega)
    generalize pos T (vlk T) = pp at *
    clear hbig hR0 hb0 hc0 hT hbz hv hv' hpl
    go_enter Tryd.func27, Tryd.ntmps27
    go_wp2_with (go_at_call 37; go_must (refine (CV.out _).mono ?_; rintro e w0 ⟨rfl, hw0⟩; obtain rfl := hw0.symm))
    go_at_call 36
    refine (CR.out _ HC0.out).mono ?_
    rintro e w1 ⟨hfa, hb9⟩
    have HPP : Hid (To t w R0 e w1) := hid (by rw [HR.out]; exact ⟨by rw [HP.out]; exact hfa, vonto HB0.out hb9⟩)
    unfold cFaulted at hfa
    subst hfa
    generalize faultV t ((pp : Nat) : Int) ((3 : Nat) : Int) = fv at HPP ⊢
    clear hb9
    go_wp2_with fail
    first
    | exact HPP.out
    | exact ⟨rfl, HPP.out⟩
    | (simp only [bodyPost]; exact HPP.out)
  rw [if_pos hv] at hR0
  have hv' : decide (pos T (vlk T) = t.size) = true := decide_eq_true (by omega)
  rw [hv'] at CV
  generalize pos T (vlk T) = pp at *
  have HC0 := hid hc0
  have HB0 := hid hb0
  have HR := hid hR0.symm
  clear hbig hR0 hb0 hc0 hT hv hv'
  go_enter Tryd.func27, Tryd.ntmps27
  go_upto_region 8 with (go_at_call 37; go_must (refine (CV.out _).mono ?_; rintro e w0 ⟨rfl, hw0⟩; obtain rfl := hw0.symm))
  refine cwp_gen ?_
  intro W hW
  rw [← hW] at HC0 HB0 hbz
  clear hW CV
  go_loopg [6, 7, 8] t.size (fun gk v _ _ wr => ∃ (E : List (List (List UInt8) × Value)) (k g : Nat), k ≤ t.size ∧ t.size ≤ k + gk ∧ t.size - k < g ∧ E.length ≤ 513 ∧ Hid (Cr wr w.heap.size t k) ∧ Hid (Below w.heap.size w wr) ∧ Hid (Rws wr (w.heap.size + 1) v E) ∧ w.heap.size < wr.heap.size ∧ Hid (R0 = crdL fldP g (E.map (·.1)) (T.drop k)))
  case atStart => exact ⟨[], 0, T.length + 1, by omega, by omega, by omega, by simp, HC0, HB0, hid ⟨World.ownsRow_nil _ _ _ _, by simp⟩, hbz, HR⟩
  case round =>
    obtain ⟨E, k, g, hk, hg, hgf, hE, HC', HB', HW', hbz', HR'⟩ := hrel
    clear HR HC0 HB0 hbz
    obtain ⟨g1, rfl⟩ : ∃ g1, g = g1 + 1 := ⟨g - 1, by omega⟩
    obtain ⟨L, hL⟩ : ∃ L, T.drop k = L := ⟨_, rfl⟩
    have HL := hid hL
    have hLl : L.length = t.size - k := by rw [← hL, List.length_drop, hTl]
    rw [hL, crdL_step] at HR'
    clear hL
    have r1 := HC'.out.r1
    obtain ⟨o6, c6, hv6⟩ := slice_shape HW'.out.own
    subst hv6
    by_cases hlt : k < t.size
    rotate_left
    · rw [if_pos (List.eq_nil_of_length_eq_zero (by omega))] at HR'
      go_wp2_with fail
      go_ret
      rw [HR'.out]
      exact ⟨_, _, _, E, rfl, rfl, HW'.out.mono (by omega), HB'.out⟩
    rw [if_neg (by intro e; rw [e] at hLl; simp at hLl; omega)] at HR'
    by_cases h513 : (E.map (·.1)).length = 513
    · rw [if_pos h513] at HR'
      have hE5 : ((E.length : Int) == 513) = true := by rw [List.length_map] at h513; rw [h513]; rfl
      have CR := hid (crefuse_any w.heap.size t k k 2 wr HC'.out (by omega))
      clear h513
      go_wp2_with fail
      go_at_call 36
      refine CR.out.mono ?_
      rintro e w1 ⟨hfa, hb9⟩
      have HPP : Hid (To t w R0 e w1) := hid (by rw [HR'.out]; exact ⟨by rw [hLl, show t.size - (t.size - k) = k by omega]; exact hfa, vonto HB'.out hb9⟩)
      unfold cFaulted at hfa
      subst hfa
      generalize faultV t ((k : Nat) : Int) ((2 : Nat) : Int) = fv at HPP ⊢
      clear hb9
      go_wp2_with fail
      first
      | exact HPP.out
      | exact ⟨rfl, HPP.out⟩
      | (simp only [bodyPost]; exact HPP.out)
    rw [if_neg h513] at HR'
    have hE5 : ((E.length : Int) == 513) = false := by rw [List.length_map] at h513; rw [beq_eq_false_iff_ne]; omega
    have hE2 : E.length ≤ 512 := by rw [List.length_map] at h513; omega
    have CW := hid (crow_any w.heap.size t k wr HC'.out hk hs')
    rw [HT.out, HL.out] at CW
    clear h513
    go_wp2_with fail
    go_at_call 38
    refine CW.out.mono ?_
    intro e w1 hp
    cases hf : crwF fldP L with
    | bad er r =>
      rw [hf] at HR' hp
      simp only at HR'
      obtain ⟨hfa, ho1⟩ := hp
      have HPP : Hid (To t w R0 e w1) := hid (by rw [HR'.out]; exact ⟨hfa, cown_bel HB'.out ho1 (Nat.le_refl _)⟩)
      unfold cFaulted at hfa
      subst hfa
      generalize faultV t ((t.size - r.length : Nat) : Int) ((er : Nat) : Int) = fv at HPP ⊢
      clear ho1 CW hf
      go_wp2_with fail
      first
      | exact HPP.out
      | exact ⟨rfl, HPP.out⟩
      | (simp only [bodyPost]; exact HPP.out)
    | ok fs r =>
      rw [hf] at HR' hp
      simp only at HR'
      obtain ⟨v, rfl, hown, hc1, ho1, hf1, hf64⟩ := hp
      obtain ⟨⟨p, hpr⟩, hprog⟩ := crwF_tail fldP fldP_suf L fs r hf
      have hrl := hprog (by intro e; rw [e] at hLl; simp at hLl; omega)
      have HDR := hid (show T.drop (t.size - r.length) = r by rw [← hTl]; exact drop_pos HL.out (by omega) p r hpr)
      have HC1 := hid hc1
      have HB1 := hid (cown_bel HB'.out ho1 (Nat.le_refl _))
      have HW1 := hid (HW'.out.far ho1 (Nat.lt_succ_self _))
      have HV1 := hid (ownsRow_mono hown (show w.heap.size + 1 ≤ wr.heap.size by omega))
      have hbz1 : w.heap.size < w1.heap.size := Nat.lt_of_lt_of_le hbz' ho1.size
      obtain ⟨o8, c8, hv8⟩ := slice_shape hown
      subst hv8
      clear CW hown hc1 ho1 hpr hprog hf HC' HB' HW' r1
      obtain ⟨g', rfl⟩ : ∃ g', gk = g' + 1 := ⟨gk - 1, by omega⟩
      have APP : Hid (∀ (q : World) (u' : Value), q.ownsRow (w.heap.size + 1) 24 1 u' (E.length + 1) (E.map (·.2) ++ [.slice o8 fs.length c8]) → (w1.alloc (.cells #[.slice o8 fs.length c8] 24)).grownBy q (Value.slice o6 E.length c6).ownBlock → Cr q w.heap.size t (t.size - r.length) ∧ Below w.heap.size w q ∧ Rws q (w.heap.size + 1) u' (E ++ [(fs, .slice o8 fs.length c8)]) ∧ w.heap.size < q.heap.size) := hid (fun q u' h1 h2 => by
        have hb3 := valloc_bel (Below.refl w1.heap.size w1) (.cells #[.slice o8 fs.length c8] 24)
        have hlt : ∀ j, (Value.slice o6 E.length c6).ownBlock = some j → w.heap.size + 1 ≤ j := fun j hj => (HW1.out.own.lt j hj).1
        refine ⟨(HC1.out.onto hb3).grown h2 (fun e => by have := hlt _ e; omega), (vonto HB1.out hb3).grown h2 (by have := (vonto HB1.out hb3).size; exact this) (fun j hj => by have := hlt j hj; omega), (HW1.out.onto hb3).more (ownsRow_below HV1.out hb3) h1 h2, Nat.lt_of_lt_of_le (Nat.lt_of_lt_of_le hbz1 hb3.size) h2.size⟩)
      cases E with
      | nil =>
        rw [if_neg (by simp)] at HR'
        go_wp2_with (at_builtin; go_must (refine wpList_append_own _ rfl (.tmp 53) (.tmp 55) 25 rfl (w.heap.size + 1) 24 i0 (.slice none 0 0) 1 24 Tryd.underlying25 hi hz0 hz1 hz2 rfl (by decide) _ 0 _ rfl (HW1.out.own.alloc _) ⟨w1.heap.size, 0, none⟩ 1 1 [.slice o8 fs.length c8] rfl rfl (new_cells w1 _ 24) (by simp [Value.oneCell']) (by unfold maxLen; omega) (by omega) (by simp; omega) ?_; intro v4 w4 hown hgr4 _))
        obtain ⟨q1, q2, q3, q4⟩ := APP.out w4 v4 hown hgr4
        have Q1 := hid q1
        have Q2 := hid q2
        have Q3 := hid q3
        clear hown hgr4 q1 q2 q3
        go_roundg g'
        case measure => omega
        case rel => exact ⟨_, t.size - r.length, g1, by omega, by omega, by omega, by simp, Q1, Q2, Q3, q4, hid (by rw [HDR.out]; exact HR'.out)⟩
      | cons e0 E' =>
        obtain ⟨g0, o', c', ho6, hn6, hnc, hcell⟩ := head_cell HW1.out
        simp only [List.length_cons] at hE2
        have hlen : (0 : Int) < ((e0 :: E').length : Int) := by simp
        by_cases hne : fs.length = e0.1.length
        · rw [if_neg (fun h => h.2 hne)] at HR'
          have hneb : ((fs.length : Int) != (e0.1.length : Int)) = false := by rw [bne_eq_false_iff_eq]; omega
          clear hne
          subst ho6
          go_wp2_with (at_builtin; go_must (refine wpList_append_own _ rfl (.tmp 53) (.tmp 55) 25 rfl (w.heap.size + 1) 24 i0 (.slice none 0 0) 1 24 Tryd.underlying25 hi hz0 hz1 hz2 rfl (by decide) _ (e0 :: E').length _ rfl (HW1.out.own.alloc _) ⟨w1.heap.size, 0, none⟩ 1 1 [.slice o8 fs.length c8] rfl rfl (new_cells w1 _ 24) (by simp [Value.oneCell']) (by unfold maxLen; simp only [List.length_cons]; omega) (by simp only [List.length_cons]; omega) (by simp; omega) ?_; intro v4 w4 hown hgr4 _))
          obtain ⟨q1, q2, q3, q4⟩ := APP.out w4 v4 hown hgr4
          have Q1 := hid q1
          have Q2 := hid q2
          have Q3 := hid q3
          clear hown hgr4 q1 q2 q3
          go_roundg g'
          case measure => omega
          case rel => exact ⟨_, t.size - r.length, g1, by omega, by omega, by omega, by simp; omega, Q1, Q2, Q3, q4, hid (by rw [HDR.out, List.map_append]; exact HR'.out)⟩
        · rw [if_pos ⟨by simp, hne⟩] at HR'
          have hneb : ((fs.length : Int) != (e0.1.length : Int)) = true := by rw [bne_iff_ne]; omega
          have CR := hid (crefuse_any w.heap.size t (t.size - r.length) k 7 w1 HC1.out (by omega))
          subst ho6
          go_wp2_with fail
          go_at_call 36
          refine CR.out.mono ?_
          rintro e w2 ⟨hfa, hb9⟩
          have HPP : Hid (To t w R0 e w2) := hid (by rw [HR'.out]; exact ⟨by rw [hLl, show t.size - (t.size - k) = k by omega]; exact hfa, vonto HB1.out hb9⟩)
          unfold cFaulted at hfa
          subst hfa
          generalize faultV t ((k : Nat) : Int) ((7 : Nat) : Int) = fv at HPP ⊢
          clear hb9
          go_wp2_with fail
          first
          | exact HPP.out
          | exact ⟨rfl, HPP.out⟩
          | (simp only [bodyPost]; exact HPP.out)
end Go.Proofs.YtjbccmnmcjmooaaDoor
