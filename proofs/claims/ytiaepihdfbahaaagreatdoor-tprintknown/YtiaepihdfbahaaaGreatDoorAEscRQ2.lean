/- The document's own Quote of chapter 6: walked. -/
import Derived.Test.YtiaepihdfbahaaaGreatDoorAEscTun
namespace Go.Proofs.YtiaepihdfbahaaaGreatDoor
open Go.RowKit

/-- a letter, cut out, is the same letter -/
theorem tk_cut (l : List UInt8) (h : 0 < l.length) : tkN (l.take (stp l)) = tkN l := by
  cases l with
  | nil => simp at h
  | cons a t =>
    by_cases hk : tkOk a t = true
    · have hn : tkN (a :: t) = begN a.toNat := by simp only [tkN, hk, if_true]
      have h1 := hk
      unfold tkOk at h1
      simp only [Bool.and_eq_true, decide_eq_true_eq] at h1
      obtain ⟨⟨⟨g1, g2⟩, g3⟩, g4, g5⟩ := h1
      have hs : stp (a :: t) = begN a.toNat := by unfold stp; rw [hn]; omega
      obtain ⟨m, hm⟩ : ∃ m, begN a.toNat = m + 1 := ⟨begN a.toNat - 1, by omega⟩
      rw [hn, hs]
      have e : (a :: t).take (begN a.toNat) = a :: t.take (begN a.toNat - 1) := by rw [hm]; rfl
      rw [e]
      have hk2 : tkOk a (t.take (begN a.toNat - 1)) = true := by
        unfold tkOk
        rw [List.take_take, Nat.min_self, g3, g4, decide_eq_true g5, List.length_take, decide_eq_true (show begN a.toNat ≠ 0 ∧ begN a.toNat ≤ min (begN a.toNat - 1) t.length + 1 by omega)]; rfl
      simp only [tkN, hk2, if_true]
    · have hk' : tkOk a t = false := by simpa using hk
      have hn : tkN (a :: t) = 0 := by simp only [tkN, hk']; rfl
      have hs : stp (a :: t) = 1 := by unfold stp; rw [hn]; rfl
      rw [hn, hs]
      show tkN [a] = 0
      by_cases ha : a.toNat < 128
      · have := tk_ascii (l := a :: t) (by rw [bt_cons]; exact ha)
        omega
      · have h2 : tkOk a [] = false := by
          unfold tkOk
          have : ¬ (begN a.toNat ≠ 0 ∧ begN a.toNat ≤ ([] : List UInt8).length + 1) := by
            unfold begN
            rw [if_neg ha]
            (repeat' split) <;> simp
          rw [decide_eq_false this]; rfl
        simp only [tkN, h2]; rfl
theorem qst_none {toml : Bool} {l : List UInt8} (h : tkN l = 0) : qst toml l = [239, 191, 189] := by unfold qst; rw [if_pos h]
theorem qst_small {toml : Bool} {l : List UInt8} (h0 : tkN l ≠ 0) (h1 : bt l 0 < 128) (h : ¬ (bt l 0 = 127 ∧ toml = false)) : qst toml l = qbB (bt l 0) := by
  unfold qst; rw [if_neg h0, if_neg]; rw [tk_ascii h1]; rintro (h2 | h2)
  · omega
  · exact h h2
theorem qst_as {toml : Bool} {l : List UInt8} (h0 : tkN l ≠ 0) (h : 1 < tkN l ∨ bt l 0 = 127 ∧ toml = false) : qst toml l = l.take (tkN l) := by
  unfold qst; rw [if_neg h0, if_pos h]
theorem tk_wide {l : List UInt8} (h0 : tkN l ≠ 0) (h : 128 ≤ bt l 0) : 1 < tkN l := by
  by_cases h1 : 1 < tkN l
  · exact h1
  · have := tk_small h0 h1; omega
set_option maxRecDepth 100000 in
set_option maxHeartbeats 4000000 in
theorem rquote_any (toml : Bool) (t : ByteArray) (w : World) (ht : t.size ≤ 100000) :
    Calls Tryz.prog 27 #[.string t, .bool toml] w fun e w' => e = .returned (.string (mkS (qtA toml t.data.toList))) ∧ Below w.heap.size w w' := by
  have HZ := hid (size_list t)
  have HML := hid (show t.size ≤ maxLen by unfold maxLen; omega)
  obtain ⟨T, hT⟩ : ∃ T, t.data.toList = T := ⟨_, rfl⟩
  have HT := hid hT
  have HTL := hid (show T.length = t.size by rw [← hT]; exact size_list t)
  have HBT : Hid (∀ p (h : p < t.size), bt T p = t[p].toNat) := fun p h => by rw [← HT.out]; exact bt_at t p h
  have CS := hid (starts_at t w (by omega))
  rw [hT] at CS
  rw [hT]
  clear hT
  have HCN := hid (cnt_has T)
  have hcn : cnt T ≤ 100000 := by have h1 := (cnt_has T).1; have h2 := pos_ge T (cnt T); have := HTL.out; omega
  go_enter Tryz.func27, Tryz.ntmps27
  go_wp2_with fail
  go_at_call 46
  refine CS.out.mono ?_
  rintro e w1 ⟨g, cap, rfl, hcell, hb1⟩
  have HCELL := hid hcell
  have HB1 := hid hb1
  clear hcell hb1 CS
  go_wp2_with fail
  go_loopw [5, 7] (fun s x wr => ∃ (k : Nat) (A : ByteArray), k ≤ cnt T ∧ x = .int .i64 k ∧ s = .string A ∧ A.size ≤ 6 * k + 1 ∧ Hid (A = mkS (qtK toml T k)) ∧ Hid (Below w1.heap.size w1 wr)) (fun _ x _ => cnt T - (intOf x).toNat)
  case atStart => exact ⟨0, ⟨#[34]⟩, Nat.zero_le _, rfl, rfl, Nat.le_refl _, rfl, Below.refl _ _⟩
  case round =>
    obtain ⟨k, A, hk, rfl, rfl, hA, HA, HB⟩ := hrel
    by_cases hlt : k < cnt T
    · have hpl : pos T k < t.size := by have := HCN.out.2 k hlt; rw [HTL.out] at this; exact this
      have c1 : wr.cell? ⟨g, k, none⟩ = some (.int .i64 (pos T k)) := (HB.out.cell (World.block_lt_of_cell? w1 _ (HCELL.out k (by omega)))).trans (HCELL.out k (by omega))
      have c2 : wr.cell? ⟨g, k + 1, none⟩ = some (.int .i64 (pos T (k + 1))) := (HB.out.cell (World.block_lt_of_cell? w1 _ (HCELL.out (k + 1) (by omega)))).trans (HCELL.out (k + 1) (by omega))
      have hpn : pos T (k + 1) ≤ t.size := by have := pos_next T k (by rw [HTL.out]; exact hpl); rw [HTL.out] at this; exact this
      have hpk := pos_lt T k
      obtain ⟨x, hx⟩ : ∃ x, t.extract (pos T k) (pos T (k + 1)) = x := ⟨_, rfl⟩
      have hxl : x.data.toList = (T.drop (pos T k)).take (stp (T.drop (pos T k))) := by
        rw [← hx, drop_ext, HT.out]
        simp only [pos, Nat.add_sub_cancel_left]
      have hxs : x.size = pos T (k + 1) - pos T k := by rw [← hx, ByteArray.size_extract]; omega
      have hx0 : 0 < x.size := by omega
      have hx4 : x.size ≤ 4 := by
        rw [hxs]; simp only [pos, stp]
        have := tkN_4 (T.drop (pos T k)); omega
      have CT : Hid (∀ X, Calls Tryz.prog 47 #[.string x] X fun e w' => e = .returned (.tuple #[.int .i64 (tkR x.data.toList : Nat), .int .i64 (tkN (T.drop (pos T k)) : Nat)]) ∧ Below X.heap.size X w') := fun X => by
        have := rtake_all x X (by unfold maxLen; omega)
        rw [hxl, tk_cut _ (by rw [List.length_drop, HTL.out]; omega), ← hxl] at this; exact this
      have HB0 := hid (show bt (T.drop (pos T k)) 0 = x[0].toNat by
        have h1 := bt_at x 0 hx0
        rw [hxl] at h1
        rw [← h1]
        unfold bt
        rw [List.getElem?_take_of_lt (by have := stp_pos (T.drop (pos T k)); omega)])
      have HXQ : Hid (tkN (T.drop (pos T k)) ≠ 0 → x = mkS ((T.drop (pos T k)).take (tkN (T.drop (pos T k))))) := fun h => by
        refine mkS_of _ _ ?_
        rw [hxl]; unfold stp; rw [Nat.max_eq_left (by omega)]
      have HXS := hid hxs
      clear hxl hxs
      have HK := hid (qtK_succ toml T k)
      have HADD : Hid (∀ (y : ByteArray) (m : List UInt8), y = mkS m → qst toml (T.drop (pos T k)) = m → A ++ y = mkS (qtK toml T (k + 1))) := fun y m h1 h2 => by
        rw [HK.out, h1, HA.out, h2, mkS_app]
      by_cases h0 : tkN (T.drop (pos T k)) = 0
      · have g0 : (((tkN (T.drop (pos T k)) : Nat) : Int) == 0) = true := by rw [h0]; rfl
        have HM := hid (HADD.out ⟨#[239, 191, 189]⟩ _ rfl (qst_none h0))
        clear h0 HADD HXQ
        generalize tkN (T.drop (pos T k)) = n at *
        go_wp2_with fail
        go_quiet (fail)
        go_wp2_with fail
        go_at_call 47
        refine (CT.out _).mono ?_
        rintro e w2 ⟨rfl, hb2⟩
        go_wp2_with fail
        go_roundw
        case rel => exact ⟨k + 1, A ++ (⟨#[239, 191, 189]⟩ : ByteArray), hlt, val_int (by omega), rfl, by rw [ByteArray.size_append]; show A.size + 3 ≤ _; omega, HM.out, eonto HB.out (eonto (drewN_below _ _) hb2)⟩
        case measure => simp [intOf]; omega
      · have g0 : (((tkN (T.drop (pos T k)) : Nat) : Int) == 0) = false := by rw [beq_eq_false_iff_ne]; omega
        have HX := hid (HXQ.out h0)
        have HSM := hid (fun h1 h => qst_small (toml := toml) h0 h1 h)
        have HAS := hid (fun h => qst_as (toml := toml) h0 h)
        have HWD := hid (fun h => tk_wide h0 h)
        have HAC := hid (fun h => tk_ascii (l := T.drop (pos T k)) h)
        rw [HB0.out] at HSM HAS HWD HAC
        have hbb := x[0].toNat_lt
        have HX1 : Hid (x[0].toNat < 128 → x = mkS [x[0]]) := fun h => by
          have h1 := HX.out
          rw [HAC.out h] at h1
          refine h1.trans (congrArg mkS ?_)
          have hb := HB0.out
          cases hl : T.drop (pos T k) with
          | nil => rw [hl, bt_nil] at hb; omega
          | cons c r =>
            rw [hl, bt_cons] at hb
            rw [UInt8.toNat_inj.1 hb]; rfl
        clear h0 HXQ
        obtain ⟨b, hb⟩ : ∃ b : UInt8, x[0] = b := ⟨_, rfl⟩
        rw [hb] at HSM HAS HWD HAC HX1 hbb
        have HB := HB
        by_cases c1 : b.toNat = 34 ∨ b.toNat = 92
        · have HM := hid (show A ++ ⟨#[92]⟩ ++ x = mkS (qtK toml T (k + 1)) by
            have e1 : (⟨#[92]⟩ : ByteArray) ++ x = mkS [92, b] := by rw [HX1.out (by omega)]; exact mkS_app [92] [b]
            rw [ByteArray.append_assoc]
            exact HADD.out _ _ e1 (by rw [HSM.out (by omega) (by omega)]; unfold qbB; rw [if_pos c1]; simp))
          have c1' : ((b.toNat : Int) == 34) = true ∨ (((b.toNat : Int) == 34) = false ∧ ((b.toNat : Int) == 92) = true) := by simp only [beq_iff_eq, beq_eq_false_iff_ne]; omega
          clear c1 HADD HSM HAS HWD HAC HX1
          generalize tkN (T.drop (pos T k)) = n at *
          rcases c1' with f1 | ⟨f1, f2⟩
          all_goals
            go_wp2_with fail
            go_quiet (fail)
            go_wp2_with fail
            go_at_call 47
            refine (CT.out _).mono ?_
            rintro e w2 ⟨rfl, hb2⟩
            go_wp2_with fail
            go_roundw
            case rel => exact ⟨k + 1, A ++ (⟨#[92]⟩ : ByteArray) ++ x, hlt, val_int (by omega), rfl, by rw [ByteArray.size_append, ByteArray.size_append]; show A.size + 1 + x.size ≤ _; omega, HM.out, eonto HB.out (eonto (drewN_below _ _) hb2)⟩
            case measure => simp [intOf]; omega
        · have f1 : ((b.toNat : Int) == 34) = false := by rw [beq_eq_false_iff_ne]; omega
          have f2 : ((b.toNat : Int) == 92) = false := by rw [beq_eq_false_iff_ne]; omega
          by_cases e8 : b.toNat = 8
          · have HM := hid (HADD.out ⟨#[92, 98]⟩ [92, 98] rfl (by rw [HSM.out (by omega) (by omega)]; unfold qbB; rw [if_neg c1, if_pos e8]))
            have k1 : ((b.toNat : Int) == 8) = true := by rw [beq_iff_eq]; omega
            clear HADD HSM HAS HWD HAC HX1 c1 e8
            generalize tkN (T.drop (pos T k)) = n at *
            go_wp2_with fail
            go_quiet (fail)
            go_wp2_with fail
            go_at_call 47
            refine (CT.out _).mono ?_
            rintro e w2 ⟨rfl, hb2⟩
            go_wp2_with fail
            go_roundw
            case rel => exact ⟨k + 1, A ++ (⟨#[92, 98]⟩ : ByteArray), hlt, val_int (by omega), rfl, by rw [ByteArray.size_append]; show A.size + 2 ≤ _; omega, HM.out, eonto HB.out (eonto (drewN_below _ _) hb2)⟩
            case measure => simp [intOf]; omega
          have k8 : ((b.toNat : Int) == 8) = false := by rw [beq_eq_false_iff_ne]; omega
          by_cases e9 : b.toNat = 9
          · have HM := hid (HADD.out ⟨#[92, 116]⟩ [92, 116] rfl (by rw [HSM.out (by omega) (by omega)]; unfold qbB; rw [if_neg c1, if_neg e8, if_pos e9]))
            have k1 : ((b.toNat : Int) == 9) = true := by rw [beq_iff_eq]; omega
            clear HADD HSM HAS HWD HAC HX1 c1 e9
            generalize tkN (T.drop (pos T k)) = n at *
            go_wp2_with fail
            go_quiet (fail)
            go_wp2_with fail
            go_at_call 47
            refine (CT.out _).mono ?_
            rintro e w2 ⟨rfl, hb2⟩
            go_wp2_with fail
            go_roundw
            case rel => exact ⟨k + 1, A ++ (⟨#[92, 116]⟩ : ByteArray), hlt, val_int (by omega), rfl, by rw [ByteArray.size_append]; show A.size + 2 ≤ _; omega, HM.out, eonto HB.out (eonto (drewN_below _ _) hb2)⟩
            case measure => simp [intOf]; omega
          have k9 : ((b.toNat : Int) == 9) = false := by rw [beq_eq_false_iff_ne]; omega
          by_cases e10 : b.toNat = 10
          · have HM := hid (HADD.out ⟨#[92, 110]⟩ [92, 110] rfl (by rw [HSM.out (by omega) (by omega)]; unfold qbB; rw [if_neg c1, if_neg e8, if_neg e9, if_pos e10]))
            have k1 : ((b.toNat : Int) == 10) = true := by rw [beq_iff_eq]; omega
            clear HADD HSM HAS HWD HAC HX1 c1 e10
            generalize tkN (T.drop (pos T k)) = n at *
            go_wp2_with fail
            go_quiet (fail)
            go_wp2_with fail
            go_at_call 47
            refine (CT.out _).mono ?_
            rintro e w2 ⟨rfl, hb2⟩
            go_wp2_with fail
            go_roundw
            case rel => exact ⟨k + 1, A ++ (⟨#[92, 110]⟩ : ByteArray), hlt, val_int (by omega), rfl, by rw [ByteArray.size_append]; show A.size + 2 ≤ _; omega, HM.out, eonto HB.out (eonto (drewN_below _ _) hb2)⟩
            case measure => simp [intOf]; omega
          have k10 : ((b.toNat : Int) == 10) = false := by rw [beq_eq_false_iff_ne]; omega
          by_cases e12 : b.toNat = 12
          · have HM := hid (HADD.out ⟨#[92, 102]⟩ [92, 102] rfl (by rw [HSM.out (by omega) (by omega)]; unfold qbB; rw [if_neg c1, if_neg e8, if_neg e9, if_neg e10, if_pos e12]))
            have k1 : ((b.toNat : Int) == 12) = true := by rw [beq_iff_eq]; omega
            clear HADD HSM HAS HWD HAC HX1 c1 e12
            generalize tkN (T.drop (pos T k)) = n at *
            go_wp2_with fail
            go_quiet (fail)
            go_wp2_with fail
            go_at_call 47
            refine (CT.out _).mono ?_
            rintro e w2 ⟨rfl, hb2⟩
            go_wp2_with fail
            go_roundw
            case rel => exact ⟨k + 1, A ++ (⟨#[92, 102]⟩ : ByteArray), hlt, val_int (by omega), rfl, by rw [ByteArray.size_append]; show A.size + 2 ≤ _; omega, HM.out, eonto HB.out (eonto (drewN_below _ _) hb2)⟩
            case measure => simp [intOf]; omega
          have k12 : ((b.toNat : Int) == 12) = false := by rw [beq_eq_false_iff_ne]; omega
          by_cases e13 : b.toNat = 13
          · have HM := hid (HADD.out ⟨#[92, 114]⟩ [92, 114] rfl (by rw [HSM.out (by omega) (by omega)]; unfold qbB; rw [if_neg c1, if_neg e8, if_neg e9, if_neg e10, if_neg e12, if_pos e13]))
            have k1 : ((b.toNat : Int) == 13) = true := by rw [beq_iff_eq]; omega
            clear HADD HSM HAS HWD HAC HX1 c1 e13
            generalize tkN (T.drop (pos T k)) = n at *
            go_wp2_with fail
            go_quiet (fail)
            go_wp2_with fail
            go_at_call 47
            refine (CT.out _).mono ?_
            rintro e w2 ⟨rfl, hb2⟩
            go_wp2_with fail
            go_roundw
            case rel => exact ⟨k + 1, A ++ (⟨#[92, 114]⟩ : ByteArray), hlt, val_int (by omega), rfl, by rw [ByteArray.size_append]; show A.size + 2 ≤ _; omega, HM.out, eonto HB.out (eonto (drewN_below _ _) hb2)⟩
            case measure => simp [intOf]; omega
          have k13 : ((b.toNat : Int) == 13) = false := by rw [beq_eq_false_iff_ne]; omega
          by_cases ctl : b.toNat < 32 ∨ (toml = true ∧ b.toNat = 127)
          · have HM := hid (show A ++ ⟨#[92, 117]⟩ ++ mkS [48, 48, hxD (b.toNat / 16), hxD (b.toNat % 16)] = mkS (qtK toml T (k + 1)) by
              rw [ByteArray.append_assoc]
              refine HADD.out _ [92, 117, 48, 48, hxD (b.toNat / 16), hxD (b.toNat % 16)] (mkS_app [92, 117] _) ?_
              rw [HSM.out (by omega) (by rintro ⟨q1, q2⟩; rcases ctl with h | ⟨h, -⟩; omega; rw [q2] at h; cases h)]; unfold qbB; rw [if_neg c1, if_neg e8, if_neg e9, if_neg e10, if_neg e12, if_neg e13, if_pos (by omega)])
            have C4 := hid (fun X => hex4_any b.toNat (by omega) X)
            obtain ⟨m, hm⟩ : ∃ m, mkS [48, 48, hxD (b.toNat / 16), hxD (b.toNat % 16)] = m := ⟨_, rfl⟩
            have hms : m.size = 4 := by rw [← hm, mkS_size]; rfl
            have HMS := hid hms
            have hms4 : m.size ≤ 4 := by omega
            rw [hm] at C4 HM
            have ctl' : decide ((b.toNat : Int) < 32) = true ∨ (decide ((b.toNat : Int) < 32) = false ∧ toml = true ∧ ((b.toNat : Int) == 127) = true) := by
              simp only [decide_eq_true_eq, decide_eq_false_iff_not, beq_iff_eq]
              rcases ctl with h | ⟨h, h2⟩
              · left; omega
              · right; exact ⟨by omega, h, by omega⟩
            clear HADD HSM HAS HWD HAC HX1 c1 ctl e8 e9 e10 e12 e13 hm hms
            generalize tkN (T.drop (pos T k)) = n at *
            rcases ctl' with j1 | ⟨j1, rfl, j2⟩
            all_goals
              go_wp2_with fail
              go_quiet (fail)
              go_wp2_with fail
              go_at_call 47
              refine (CT.out _).mono ?_
              rintro e w2 ⟨rfl, hb2⟩
              go_wp2_with fail
              go_at_call 48
              refine (C4.out _).mono ?_
              rintro e w3 ⟨rfl, hb3⟩
              go_wp2_with fail
              go_roundw
              case rel => exact ⟨k + 1, A ++ (⟨#[92, 117]⟩ : ByteArray) ++ m, hlt, val_int (by omega), rfl, by rw [ByteArray.size_append, ByteArray.size_append, HMS.out]; show A.size + 2 + 4 ≤ _; omega, HM.out, eonto HB.out (eonto (eonto (drewN_below _ _) hb2) hb3)⟩
              case measure => simp [intOf]; omega
          have HM := hid (show A ++ x = mkS (qtK toml T (k + 1)) by
            by_cases hw : b.toNat < 128 ∧ ¬ (b.toNat = 127 ∧ toml = false)
            · refine HADD.out _ [b] (HX1.out hw.1) ?_
              rw [HSM.out hw.1 hw.2]; unfold qbB
              have : ¬ (b.toNat < 32 ∨ b.toNat = 127) := by
                rintro (h | h)
                · exact ctl (Or.inl h)
                · cases toml with
                  | true => exact ctl (Or.inr ⟨rfl, h⟩)
                  | false => exact hw.2 ⟨h, rfl⟩
              rw [if_neg c1, if_neg e8, if_neg e9, if_neg e10, if_neg e12, if_neg e13, if_neg this]; simp
            · refine HADD.out _ _ HX.out (HAS.out ?_)
              by_cases h1 : b.toNat < 128
              · right
                by_cases h2 : b.toNat = 127 ∧ toml = false
                · exact h2
                · exact absurd ⟨h1, h2⟩ hw
              · left; exact HWD.out (by omega))
          have j1 : decide ((b.toNat : Int) < 32) = false := decide_eq_false (fun h => ctl (Or.inl (by omega)))
          have j2 : toml = false ∨ (toml = true ∧ ((b.toNat : Int) == 127) = false) := by
            cases toml with
            | false => left; rfl
            | true => right; exact ⟨rfl, by rw [beq_eq_false_iff_ne]; intro h; exact ctl (Or.inr ⟨rfl, by omega⟩)⟩
          clear HADD HSM HAS HWD HAC HX1 c1 ctl e8 e9 e10 e12 e13 HX
          generalize tkN (T.drop (pos T k)) = n at *
          rcases j2 with rfl | ⟨rfl, j2⟩
          all_goals
            go_wp2_with fail
            go_quiet (fail)
            go_wp2_with fail
            go_at_call 47
            refine (CT.out _).mono ?_
            rintro e w2 ⟨rfl, hb2⟩
            go_wp2_with fail
            go_roundw
            case rel => exact ⟨k + 1, A ++ x, hlt, val_int (by omega), rfl, by rw [ByteArray.size_append]; omega, HM.out, eonto HB.out (eonto (drewN_below _ _) hb2)⟩
            case measure => simp [intOf]; omega
    · have HC := hid (show k = cnt T by omega)
      have hk9 : A.size ≤ 600001 := by omega
      go_wp2_with fail
      go_ret
      exact ⟨ret_st (by unfold qtA; rw [HA.out, HC.out]; exact mkS_app _ [34]), eonto HB1.out HB.out⟩
end Go.Proofs.YtiaepihdfbahaaaGreatDoor
