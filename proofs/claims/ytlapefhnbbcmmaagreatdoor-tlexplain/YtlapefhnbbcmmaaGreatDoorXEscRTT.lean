
import Derived.Test.YtlapefhnbbcmmaaGreatDoorXEscTall
/- The document's own TUnquote of chapter 6: walked. -/
/- The document's own TUnquote of chapter 6: walked whole. -/
namespace Go.Proofs.YtlapefhnbbcmmaaGreatDoor
open Go.RowKit

set_option maxRecDepth 1000000 in
set_option maxHeartbeats 4000000 in
/-- a round, whatever it finds -/
theorem tround (many : Bool) (t : ByteArray) (a : Nat) (ha : a < t.size) (Q : Nat) (R : List UInt8 × Nat × Int) (w : World) (Q0 : Exit → Act → World → Prop) (ht : t.size ≤ 1000000) (hQ : t[a].toNat = Q) (hqq : Q = 34 ∨ Q = 39)
    (hret : Hid (TRet R w Q0)) (hexit : Hid (∀ x wr', TX t R w x wr' → Q0 (.exit 0) x wr')) (x : Act) (wr : World) (h : TI many t a ha Q R w x wr) :
    Code.wp Tryz.prog ((Tryz.f32.body.bind firstLoop).getD .skip) (Exit.then (fun x' w' => TI many t a ha Q R w x' w' ∧ Tmu t x' w' < Tmu t x wr) Q0) x wr := by
  obtain ⟨h1, h2, h3, h4, h5, h6, i, f, acc, A, h7, h8, hrel⟩ := h
  obtain ⟨tm, df⟩ := x
  simp only at h1 h2 h3 h4 h5 h6 h7 h8
  subst h1
  have hmu : Tmu t ⟨tm, []⟩ wr = t.size - i := by unfold Tmu; simp only [h7, intOf, Int.toNat_natCast]
  rw [hmu]
  have hfr := lit_frame tm h2
  rw [h3, h4, h5, h6, h7, h8] at hfr
  rw [hfr]
  by_cases hlt : i < t.size
  · by_cases hiq : t[i].toNat = t[a].toNat
    · cases many with
      | false => exact tr_one t a ha Q R w i f acc A (fun k => tm.getD k undef) Q0 wr ht hQ hqq hrel hret hlt hiq
      | true =>
        by_cases h3 : qN Q (t.data.toList.drop i) < 3
        · exact tr_few t a ha Q R w i f acc A (fun k => tm.getD k undef) Q0 wr ht hQ hqq hrel hret hlt hiq h3
        · exact tr_three t a ha Q R w i f acc A (fun k => tm.getD k undef) Q0 wr ht hQ hqq hrel hret hlt hiq h3
    · by_cases hesc : t[i].toNat = 92 ∧ t[a].toNat = 34
      · by_cases hfd : 0 < fdM many (t.data.toList.drop i)
        · exact tr_fold many t a ha Q R w i f acc A (fun k => tm.getD k undef) Q0 wr ht hQ hqq hrel hret hlt hesc hfd
        · by_cases hz : (escP true (t.data.toList.drop i)).2 = 0
          · exact tr_escbad many t a ha Q R w i f acc A (fun k => tm.getD k undef) Q0 wr ht hQ hqq hrel hret hlt hesc (by omega) hz
          · exact tr_esc many t a ha Q R w i f acc A (fun k => tm.getD k undef) Q0 wr ht hQ hqq hrel hret hlt hesc (by omega) (by omega)
      · by_cases hbad : badB many (t.data.toList.drop i)
        · exact tr_bad many t a ha Q R w i f acc A (fun k => tm.getD k undef) Q0 wr ht hQ hqq hrel hret hlt hiq hesc hbad
        · exact tr_plain many t a ha Q R w i f acc A (fun k => tm.getD k undef) Q0 wr ht hQ hqq hrel hret hlt hiq hesc hbad
  · exact tr_end many t a ha Q R w i f acc A (fun k => tm.getD k undef) Q0 wr ht hQ hqq hrel hret hlt hexit
/-- the loop -/
theorem tloop (many : Bool) (t : ByteArray) (a : Nat) (ha : a < t.size) (Q : Nat) (R : List UInt8 × Nat × Int) (w : World) (Q0 : Exit → Act → World → Prop) (ht : t.size ≤ 1000000) (hQ : t[a].toNat = Q) (hqq : Q = 34 ∨ Q = 39)
    (hret : Hid (TRet R w Q0)) (hexit : Hid (∀ x wr', TX t R w x wr' → Q0 (.exit 0) x wr')) (x : Act) (wr : World) (h : TI many t a ha Q R w x wr) :
    Code.wp Tryz.prog (Code.loop ((Tryz.f32.body.bind firstLoop).getD .skip)) Q0 x wr :=
  wp_loop (TI many t a ha Q R w) (Tmu t) h (fun a' w' hI => tround many t a ha Q R w Q0 ht hQ hqq hret hexit a' w' hI)
end Go.Proofs.YtlapefhnbbcmmaaGreatDoor
namespace Go.Proofs.YtlapefhnbbcmmaaGreatDoor
open Go.RowKit

set_option maxRecDepth 100000 in
set_option maxHeartbeats 8000000 in
theorem rtunq_in (many : Bool) (t : ByteArray) (a : Nat) (w : World) (ht : t.size ≤ 1000000) (ha : a < t.size) (hq : t[a].toNat = 34 ∨ t[a].toNat = 39) (hm : m3 t[a].toNat (t.data.toList.drop a) = many) :
    Calls Tryz.prog 32 #[.string t, .int .i64 (a : Int)] w fun e w' => e = .returned (.tuple #[.string (mkS (unqT t.data.toList a).1), .int .i64 ((unqT t.data.toList a).2.1 : Nat), .int .i64 (unqT t.data.toList a).2.2]) ∧ Below w.heap.size w w' := by
  have HZ := hid (size_list t)
  have HML := hid (show t.size ≤ maxLen from max_le ht)
  have HU := hid (unqT_is t.data.toList a t[a].toNat (bt_at t a ha) hq)
  rw [hm] at HU
  rw [HU.out]
  obtain ⟨Q, hQ⟩ : ∃ Q, t[a].toNat = Q := ⟨_, rfl⟩
  rw [hQ] at hq hm HU
  rw [hQ]
  obtain ⟨R, hR⟩ : ∃ R, rdA (EE many Q) (PP many Q) t.data.toList (tStart many t.data.toList a) = R := ⟨_, rfl⟩
  have HR := hid hR
  rw [hR]
  have HBT : Hid (∀ p (h : p < t.size), bt (t.data.toList.drop p) 0 = t[p].toNat) := fun p h => by rw [bt_drop]; exact bt_at t p h
  have HQ := hid hQ
  have HQQ := hid hq
  have HM := hid hm
  have d0 : decide ((a : Int) < 0) = false := decide_eq_false (by omega)
  have d1 : decide (t.size ≤ a) = false := decide_eq_false (by omega)
  have d2 : decide ((t.size : Int) ≤ (a : Int)) = false := decide_eq_false (by omega)
  clear hR HU hq hm hQ
  go_enter Tryz.func32, Tryz.ntmps32
  go_upto_region 1 with fail
  go_cut [36] (fun v wx => v = .bool false ∧ wx = w)
  case first =>
    as_aux_lemma =>
      have hq := HQQ.out
      rw [← HQ.out] at hq
      have hq' : ((t[a].toNat : Int) != 34) = false ∨ (((t[a].toNat : Int) != 34) = true ∧ ((t[a].toNat : Int) != 39) = false) := by
        simp only [bne_iff_ne, bne_eq_false_iff_eq]; omega
      clear hq
      rcases hq' with g | ⟨g, g2⟩
      all_goals
        go_wp2_with fail
        go_meet
        exact ⟨rfl, rfl⟩
  case rest =>
  obtain ⟨rfl, hwc⟩ := hcut
  obtain rfl := hwc.symm
  go_upto_region 4 with fail
  go_cut [8] (fun v wx => v = .bool many ∧ wx = w)
  case first =>
    as_aux_lemma =>
      have hm := HM.out
      unfold m3 at hm
      rw [bt_drop, bt_drop, bt_drop] at hm
      have hb0 : bt t.data.toList (a + 0) = Q := (bt_at t a ha).trans HQ.out
      rw [hb0, decide_eq_true rfl, Bool.true_and] at hm
      by_cases h2 : a + 2 < t.size
      · have e2 : decide ((a : Int) + 2 < (t.size : Int)) = true := decide_eq_true (by omega)
        rw [bt_at t (a + 1) (by omega), bt_at t (a + 2) h2, ← HQ.out] at hm
        by_cases q1 : t[a + 1].toNat = t[a].toNat
        · have e1 : ((t[a + 1].toNat : Int) == (t[a].toNat : Int)) = true := by rw [beq_iff_eq]; omega
          by_cases q2 : t[a + 2].toNat = t[a].toNat
          · have e3 : ((t[a + 2].toNat : Int) == (t[a].toNat : Int)) = true := by rw [beq_iff_eq]; omega
            rw [decide_eq_true q1, decide_eq_true q2] at hm
            obtain rfl := hm
            clear q1 q2 hb0
            go_wp2_with fail
            go_meet
            exact ⟨rfl, rfl⟩
          · have e3 : ((t[a + 2].toNat : Int) == (t[a].toNat : Int)) = false := by rw [beq_eq_false_iff_ne]; omega
            rw [decide_eq_true q1, decide_eq_false q2] at hm
            obtain rfl := hm
            clear q1 q2 hb0
            go_wp2_with fail
            go_meet
            exact ⟨rfl, rfl⟩
        · have e1 : ((t[a + 1].toNat : Int) == (t[a].toNat : Int)) = false := by rw [beq_eq_false_iff_ne]; omega
          rw [decide_eq_false q1] at hm
          obtain rfl := hm
          clear q1 hb0
          go_wp2_with fail
          go_meet
          exact ⟨rfl, rfl⟩
      · have e2 : decide ((a : Int) + 2 < (t.size : Int)) = false := decide_eq_false (by omega)
        have hlt := HQQ.out
        rw [bt_none (l := t.data.toList) (k := a + 2) (by rw [HZ.out]; omega), decide_eq_false (show ¬ 256 = Q by omega), Bool.and_false] at hm
        obtain rfl := hm
        clear hb0 hlt
        go_wp2_with fail
        go_meet
        exact ⟨rfl, rfl⟩
  case rest =>
  obtain ⟨rfl, hwc⟩ := hcut
  obtain rfl := hwc.symm
  have HA3 : Hid (many = true → a + 3 ≤ t.size) := fun h => by
    have hm := HM.out
    rw [h] at hm
    unfold m3 at hm; simp only [Bool.and_eq_true, decide_eq_true_eq] at hm
    have h1 := HQQ.out
    have := bt_lt (l := t.data.toList.drop a) (k := 2) (by omega); rw [List.length_drop, HZ.out] at this; omega
  go_upto_if 66 with fail
  go_cut [9] (fun v wx => v = .int .i64 (tStart many t.data.toList a : Nat) ∧ wx = w)
  case first =>
    as_aux_lemma =>
      cases many with
      | false =>
        go_wp2_with fail
        go_meet
        exact ⟨val_int (by unfold tStart; rw [if_neg (by decide)]; omega), rfl⟩
      | true =>
        have h3 := HA3.out rfl
        have HS := hid (show tStart true t.data.toList a = a + 3 + lnE (t.data.toList.drop (a + 3)) by unfold tStart; rw [if_pos rfl])
        by_cases h4 : a + 3 < t.size
        · have e4 : decide ((a : Int) + 3 < (t.size : Int)) = true := decide_eq_true (by omega)
          have B3 := hid (HBT.out (a + 3) h4)
          by_cases h10 : t[a + 3].toNat = 10
          · have e10 : ((t[a + 3].toNat : Int) == 10) = true := by rw [beq_iff_eq]; omega
            have HL := hid (show lnE (t.data.toList.drop (a + 3)) = 1 by unfold lnE; rw [B3.out, if_pos h10])
            clear h10
            go_wp2_with fail
            go_meet
            exact ⟨val_int (by rw [HS.out, HL.out]; omega), rfl⟩
          · have e10 : ((t[a + 3].toNat : Int) == 10) = false := by rw [beq_eq_false_iff_ne]; omega
            by_cases h5 : a + 4 < t.size
            · have e5 : decide ((a : Int) + 3 + 1 < (t.size : Int)) = true := decide_eq_true (by omega)
              have e5' : decide ((a : Int) + 4 < (t.size : Int)) = true := decide_eq_true (by omega)
              have B4 := hid (show bt (t.data.toList.drop (a + 3)) 1 = t[a + 4].toNat by rw [bt_drop]; exact bt_at t (a + 4) h5)
              by_cases h13 : t[a + 3].toNat = 13
              · have e13 : ((t[a + 3].toNat : Int) == 13) = true := by rw [beq_iff_eq]; omega
                by_cases h14 : t[a + 4].toNat = 10
                · have e14 : ((t[a + 4].toNat : Int) == 10) = true := by rw [beq_iff_eq]; omega
                  have HL := hid (show lnE (t.data.toList.drop (a + 3)) = 2 by unfold lnE; rw [B3.out, B4.out, if_neg h10, if_pos ⟨h13, h14⟩])
                  clear h10 h13 h14
                  go_wp2_with fail
                  go_meet
                  exact ⟨val_int (by rw [HS.out, HL.out]; omega), rfl⟩
                · have e14 : ((t[a + 4].toNat : Int) == 10) = false := by rw [beq_eq_false_iff_ne]; omega
                  have HL := hid (show lnE (t.data.toList.drop (a + 3)) = 0 by unfold lnE; rw [B3.out, B4.out, if_neg h10, if_neg (fun h => h14 h.2)])
                  clear h10 h13 h14
                  go_wp2_with fail
                  go_meet
                  exact ⟨val_int (by rw [HS.out, HL.out]; omega), rfl⟩
              · have e13 : ((t[a + 3].toNat : Int) == 13) = false := by rw [beq_eq_false_iff_ne]; omega
                have HL := hid (show lnE (t.data.toList.drop (a + 3)) = 0 by unfold lnE; rw [B3.out, if_neg h10, if_neg (fun h => h13 h.1)])
                clear h10 h13
                go_wp2_with fail
                go_meet
                exact ⟨val_int (by rw [HS.out, HL.out]; omega), rfl⟩
            · have e5 : decide ((a : Int) + 3 + 1 < (t.size : Int)) = false := decide_eq_false (by omega)
              have e5' : decide ((a : Int) + 4 < (t.size : Int)) = false := decide_eq_false (by omega)
              have HL := hid (show lnE (t.data.toList.drop (a + 3)) = 0 by
                unfold lnE
                rw [B3.out, if_neg h10, if_neg]
                rintro ⟨-, h⟩
                rw [bt_drop, bt_none (by rw [HZ.out]; omega)] at h; omega)
              clear h10
              go_wp2_with fail
              go_meet
              exact ⟨val_int (by rw [HS.out, HL.out]; omega), rfl⟩
        · have e4 : decide ((a : Int) + 3 < (t.size : Int)) = false := decide_eq_false (by omega)
          have e5 : decide ((a : Int) + 3 + 1 < (t.size : Int)) = false := decide_eq_false (by omega)
          have e5' : decide ((a : Int) + 4 < (t.size : Int)) = false := decide_eq_false (by omega)
          have HL := hid (show lnE (t.data.toList.drop (a + 3)) = 0 by
            unfold lnE
            rw [bt_none (by rw [List.length_drop, HZ.out]; omega), if_neg (by omega), if_neg (by omega)])
          go_wp2_with fail
          go_meet
          exact ⟨val_int (by rw [HS.out, HL.out]; omega), rfl⟩
  case rest =>
  obtain ⟨rfl, hwc⟩ := hcut
  obtain rfl := hwc.symm
  have HTS := hid (show tStart many t.data.toList a ≤ t.size by
    unfold tStart
    split
    · next h =>
      have h1 := HA3.out h
      have h2 := (lnE_le (t.data.toList.drop (a + 3))).1
      rw [List.length_drop, HZ.out] at h2; omega
    · omega)
  go_wp2_with fail
  refine tloop many t a ha Q R w _ ht HQ.out HQQ.out ?_ ?_ _ _ ?_
  · intro x wr h1 h2 h3
    exact ⟨h1, _, h2, rfl, h3⟩
  · intro x wr' hX
    obtain ⟨h1, h2, h3, h4, h5⟩ := hX
    obtain ⟨tm, df⟩ := x
    simp only at h1 h2 h3
    subst h1
    have hfr := lit_frame tm h2
    rw [h3] at hfr
    have HRR := hid h4
    have HB5 := hid h5
    rw [hfr]
    clear hfr h2 h3 h4 h5
    go_wp2_with fail
    go_ret3
    exact ⟨ret_snn (by rw [HRR.out]; rfl) (by rw [HRR.out]; rfl) (by rw [HRR.out]), HB5.out⟩
  · exact ⟨rfl, rfl, rfl, rfl, rfl, rfl, tStart many t.data.toList a, t.data.toList.length + 1, [], ⟨#[]⟩, rfl, rfl, ⟨HTS.out, Nat.zero_le _, rfl, HR.out, by omega, Below.refl _ _⟩⟩
end Go.Proofs.YtlapefhnbbcmmaaGreatDoor
